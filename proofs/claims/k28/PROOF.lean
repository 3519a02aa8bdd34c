import PyProof.Rows.All
import Wide.All
import OpenK.AllK
import Wide.FinOn
import HandS.ForMost
import KE.KeyNested
import HandS.Flow
import HandS.Deep
import KE.DataEq
import KE.DataCmp
import HandS.TupAny
import HandS.TupMul
import HandS.Wide
import HandS.IsInst
import HandS.Text
import KE.SortData
import HandS.WordsExc
import HandS.Style
import HandS.Iter
import HandS.Zip
import HandS.Comp
import HandS.DictComp
import KE.KDictCopyH
import HandS.CallLocal
import HandS.ExcInit
import PyProof.ExcBaseAll.LookupError
import PyProof.ExcBaseAll.ValueError
import KE.KExcInit
import HandS.TryMany
import HandS.ExcField
import HandS.ExcIs
import KE.KExcIs
import HandS.Defaults
import HandS.SetFor
import HandS.Strs
import KE.KDictList
import KE.KDictZip
import HandS.HeadHook2
import HandS.NoneIn
import HandS.WideBits
import HandS.DictTup
import KE.KPairComp
import HandS.SetKeys
import PyProof.DictMoreH
import HandS.MakeKw
import HandS.RevRange
import HandS.Conv
import PyProof.DictRoadsH
import KE.DataFind
import PyProof.SeqIndex
import HandS.Rev
import HandS.SortKw
import KE.DataMinMax
import PyProof.Rows.IntBool
import KE.GoesMore
import HandS.TupLen
import KE.KDictPairs
import HandS.Small
import PyProof.Rows.CallKwBuiltin
import KE.SortCalls
import HandS.TupSets
import HandS.ExcValue
import KE.GoesEnum
import KE.GoesComp
import PyProof.Rows.SumAny
import PyProof.WalksMore
import KE.KDictItemsList
import KE.KDictWalk
import HandS.Star
import KE.KStateDown
import HandS.HeadEnd
import HandS.Head3
import KE.KDictDisplayH
import PySem.Challenge.RW_tatamirooms_k28_whole_long_corridors_and
set_option Elab.async false
set_option linter.all false
set_option maxRecDepth 100000
set_option maxHeartbeats 2000000
namespace RE
open PySem PySem.Spec PyProof.Rows L2
inductive D where
  | non | bl (b : Bool) | int (i : Int) | str (s : Str)
  | lst (ds : List D) | tup (ds : List D) | kt (ds : List D) | ks (ds : List D) | dK (kvs : List (Key × D)) | dT (kvs : List (List Key × D)) | fn (i : Nat) | ob (c : Nat) (fs : List (Str × D))
/-- a tuple whose object is known to have no dict: of the written part, or told when it was made -/
def KT (K : PySem.W.Frag) (A : Addr → Prop) (H : Hp) (a : Addr) (xs : List V) : Prop :=
  (∃ (o : Obj) (its : Array Value) (n : Nat), K.lookup a = some o ∧ o.cls = Value.type "tuple" ∧ o.dict = none ∧ o.data = .seq its n ∧ its.size ≤ sizeLine ∧ Vals xs its.toList) ∨
    ∃ o : Obj, H a = some (.frz o (.tup xs)) ∧ o.dict = none ∧ ¬ A a
theorem KT.sq {K : PySem.W.Frag} {A : Addr → Prop} {H : Hp} {a : Addr} {xs : List V} (h : KT K A H a xs) : SqT K H a xs := by
  rcases h with ⟨o, its, n, h1, h2, _, h3⟩ | ⟨o, h, _⟩
  · exact .inr ⟨o, its, n, h1, h2, h3⟩
  · exact .inl (.inr ⟨o, h⟩)
theorem KT.ext {K : PySem.W.Frag} {A A' : Addr → Prop} {H H' : Hp} {a : Addr} {xs : List V} (h : KT K A H a xs) (k : ∀ a o, H a = some o → ¬ A a → H' a = some o ∧ ¬ A' a) : KT K A' H' a xs := by
  rcases h with h | ⟨o, h, hd, n⟩
  · exact .inl h
  · exact .inr ⟨o, (k _ _ h n).1, hd, (k _ _ h n).2⟩
mutual
/-- a key without texts -/
def noTxt : NestedKey → Bool
  | .text _ => false
  | .tup ks => noTxts ks
  | _ => true
def noTxts : List NestedKey → Bool
  | [] => true
  | k :: ks => noTxt k && noTxts ks
end
/-- a dict whose keys are tuples of any depth -/
def NdO (a : Addr) (xs : List (NestedKey × Addr × V)) : HO := .ext fun h => (a == sysModules) = false ∧ ∃ ys : List (NestedKey × Addr × Value),
  Paired (fun (p : NestedKey × Addr × V) (q : NestedKey × Addr × Value) => p.1 = q.1 ∧ p.2.1 = q.2.1 ∧ RelV p.2.2 q.2.2) xs ys ∧ (xs.map (·.1)).Nodup ∧ noTxts (xs.map (·.1)) = true ∧
  ∃ o es ep, h.get? a = some o ∧ o.ExactDict ∧ o.data = .dict es ep ∧ ∀ w : World, es.toList = ys.map fun y => (⟨y.1.hash w, .ref y.2.1, y.2.2⟩ : DictEntry)
/-- a list of the written part -/
def KL (K : PySem.W.Frag) (a : Addr) (xs : List V) : Prop :=
  ∃ (o : Obj) (its : Array Value) (n : Nat), K.lookup a = some o ∧ o.cls = Value.type "list" ∧ o.dict = none ∧ o.data = .seq its n ∧ its.size ≤ sizeLine ∧ Vals xs its.toList
/-- the program: its written part, where its defs stand -/
structure G where
  K : PySem.W.Frag
  F : Nat → Addr
  /-- own exceptions: their classes, their fields' names -/
  C : Nat → Addr
  fld : Nat → List Str
/-- no tuple -/
def NT (o : HO) : Prop := ∀ xs, o ≠ .tup xs
/-- how v, over the heap H, stands for d; A: the addresses that may still change -/
inductive Rp (g : G) (A : Addr → Prop) (H : Hp) : V → D → Prop where
  | non : Rp g A H .non .non
  | bl (b : Bool) : Rp g A H (.bl b) (.bl b)
  | int (i : Int) : Rp g A H (.int i) (.int i)
  | str (s : Str) : Rp g A H (.str s) (.str s)
  | lst {a : Addr} {xs : List V} {ds : List D} : H a = some (.lst xs) → ¬ A a → xs.length = ds.length → (∀ (i : Nat) x d, xs[i]? = some x → ds[i]? = some d → Rp g A H x d) → Rp g A H (.ref a) (.lst ds)
  | tup {a : Addr} {xs : List V} {ds : List D} : H a = some (.tup xs) → ¬ A a → xs.length = ds.length → (∀ (i : Nat) x d, xs[i]? = some x → ds[i]? = some d → Rp g A H x d) → Rp g A H (.ref a) (.tup ds)
  | ktup {a : Addr} {xs : List V} {ds : List D} : KT g.K A H a xs → xs.length = ds.length → (∀ (i : Nat) x d, xs[i]? = some x → ds[i]? = some d → Rp g A H x d) → Rp g A H (.ref a) (.kt ds)
  | kls {a : Addr} {o : Obj} {xs : List V} {ds : List D} : H a = some (.frz o (.lst xs)) → ¬ A a → xs.length = ds.length → (∀ (i : Nat) x d, xs[i]? = some x → ds[i]? = some d → Rp g A H x d) → Rp g A H (.ref a) (.ks ds)
  | klw {a : Addr} {xs : List V} {ds : List D} : KL g.K a xs → xs.length = ds.length → (∀ (i : Nat) x d, xs[i]? = some x → ds[i]? = some d → Rp g A H x d) → Rp g A H (.ref a) (.ks ds)
  | dK {a : Addr} {xs : List (Key × V)} {ds : List (Key × D)} : Rd H a (.dK xs) → ¬ A a → xs.length = ds.length → (∀ (i : Nat) x d, xs[i]? = some x → ds[i]? = some d → x.1 = d.1) → (∀ (i : Nat) x d, xs[i]? = some x → ds[i]? = some d → Rp g A H x.2 d.2) → Rp g A H (.ref a) (.dK ds)
  | dT {a : Addr} {xs : List (List Key × V)} {ds : List (List Key × D)} : Rd H a (.dT xs) → ¬ A a → xs.length = ds.length → (∀ (i : Nat) x d, xs[i]? = some x → ds[i]? = some d → x.1 = d.1) → (∀ (i : Nat) x d, xs[i]? = some x → ds[i]? = some d → Rp g A H x.2 d.2) → Rp g A H (.ref a) (.dT ds)
  | fn (i : Nat) : Rp g A H (.ref (g.F i)) (.fn i)
  | ob {a dx : Addr} {c : Nat} {xs : List (Str × V)} {ds : List (Str × D)} : H a = some (.ins (g.C c) dx xs) → ¬ A a → xs.length = ds.length → (∀ (i : Nat) x d, xs[i]? = some x → ds[i]? = some d → x.1 = d.1) → (∀ (i : Nat) x d, xs[i]? = some x → ds[i]? = some d → Rp g A H x.2 d.2) → Rp g A H (.ref a) (.ob c ds)
/-- item by item -/
def RpA (g : G) (A : Addr → Prop) (H : Hp) (xs : List V) (ds : List D) : Prop :=
  xs.length = ds.length ∧ ∀ (i : Nat) x d, xs[i]? = some x → ds[i]? = some d → Rp g A H x d
section
variable {g : G} {A A' : Addr → Prop} {H H' : Hp}
theorem rd_ext {a : Addr} {u : HO} (h : Rd H a u) (na : ¬ A a) (k : ∀ a o, H a = some o → ¬ A a → H' a = some o ∧ ¬ A' a) : Rd H' a u ∧ ¬ A' a := by
  rcases h with h | ⟨o, h⟩
  · exact ⟨.inl (k _ _ h na).1, (k _ _ h na).2⟩
  · exact ⟨.inr ⟨o, (k _ _ h na).1⟩, (k _ _ h na).2⟩
/-- what stands is kept -/
theorem Rp.ext {v : V} {d : D} (r : Rp g A H v d) (k : ∀ a o, H a = some o → ¬ A a → H' a = some o ∧ ¬ A' a) : Rp g A' H' v d := by
  induction r with
  | non => exact .non
  | bl b => exact .bl b
  | int i => exact .int i
  | str s => exact .str s
  | lst h na hl _ ih => exact .lst (k _ _ h na).1 (k _ _ h na).2 hl fun i x d hx hd => ih i x d hx hd
  | tup h na hl _ ih => exact .tup (k _ _ h na).1 (k _ _ h na).2 hl fun i x d hx hd => ih i x d hx hd
  | ktup h hl _ ih => exact .ktup (h.ext k) hl fun i x d hx hd => ih i x d hx hd
  | kls h na hl _ ih => exact .kls (k _ _ h na).1 (k _ _ h na).2 hl fun i x d hx hd => ih i x d hx hd
  | klw h hl _ ih => exact .klw h hl fun i x d hx hd => ih i x d hx hd
  | dK h na hl hk _ ih => exact .dK (rd_ext h na k).1 (rd_ext h na k).2 hl hk fun i x d hx hd => ih i x d hx hd
  | dT h na hl hk _ ih => exact .dT (rd_ext h na k).1 (rd_ext h na k).2 hl hk fun i x d hx hd => ih i x d hx hd
  | fn i => exact .fn i
  | ob h na hl hk _ ih => exact .ob (k _ _ h na).1 (k _ _ h na).2 hl hk fun i x d hx hd => ih i x d hx hd
theorem RpA.ext {xs : List V} {ds : List D} (r : RpA g A H xs ds) (k : ∀ a o, H a = some o → ¬ A a → H' a = some o ∧ ¬ A' a) : RpA g A' H' xs ds :=
  ⟨r.1, fun i x d hx hd => (r.2 i x d hx hd).ext k⟩
theorem RpA.nil : RpA g A H [] [] := ⟨rfl, fun i x d hx => by simp at hx⟩
theorem RpA.cons {x : V} {xs : List V} {d : D} {ds : List D} (h : Rp g A H x d) (t : RpA g A H xs ds) : RpA g A H (x :: xs) (d :: ds) :=
  ⟨by simp [t.1], fun i y e hy he => by
    cases i with
    | zero =>
      have e1 : x = y := by simpa using hy
      have e2 : d = e := by simpa using he
      subst e1; subst e2; exact h
    | succ i => exact t.2 i y e (by simpa using hy) (by simpa using he)⟩
theorem RpA.uncons {x : V} {xs : List V} {d : D} {ds : List D} (h : RpA g A H (x :: xs) (d :: ds)) : Rp g A H x d ∧ RpA g A H xs ds :=
  ⟨h.2 0 x d rfl rfl, by have := h.1; simpa using this, fun i y e hy he => h.2 (i + 1) y e (by simpa using hy) (by simpa using he)⟩
theorem RpA.cases_cons {vs : List V} {d : D} {ds : List D} (h : RpA g A H vs (d :: ds)) : ∃ x xs, vs = x :: xs ∧ Rp g A H x d ∧ RpA g A H xs ds := by
  cases vs with
  | nil => have := h.1; simp at this
  | cons x xs => exact ⟨x, xs, rfl, h.uncons.1, h.uncons.2⟩
theorem RpA.cases_nil {vs : List V} (h : RpA g A H vs []) : vs = [] := by
  cases vs with
  | nil => rfl
  | cons x xs => have := h.1; simp at this
theorem RpA.append {xs ys : List V} {ds es : List D} (h : RpA g A H xs ds) (t : RpA g A H ys es) : RpA g A H (xs ++ ys) (ds ++ es) := by
  induction xs generalizing ds with
  | nil =>
    cases ds with
    | nil => exact t
    | cons d ds => have := h.1; simp at this
  | cons x xs ih =>
    cases ds with
    | nil => have := h.1; simp at this
    | cons d ds => exact RpA.cons h.uncons.1 (ih h.uncons.2)
theorem RpA.take {xs : List V} {ds : List D} (n : Nat) (h : RpA g A H xs ds) : RpA g A H (xs.take n) (ds.take n) :=
  ⟨by simp [h.1], fun i x d hx hd => by
    rw [List.getElem?_take] at hx hd
    split at hx
    · rename_i hi; rw [if_pos hi] at hd; exact h.2 i x d hx hd
    · cases hx⟩
theorem RpA.drop {xs : List V} {ds : List D} (n : Nat) (h : RpA g A H xs ds) : RpA g A H (xs.drop n) (ds.drop n) :=
  ⟨by simp [h.1], fun i x d hx hd => by
    rw [List.getElem?_drop] at hx hd
    exact h.2 _ x d hx hd⟩
theorem RpA.get {xs : List V} {ds : List D} {i : Nat} {d : D} (h : RpA g A H xs ds) (e : ds[i]? = some d) : ∃ x, xs[i]? = some x ∧ Rp g A H x d := by
  obtain ⟨hi, _⟩ := List.getElem?_eq_some_iff.mp e
  have hx : xs[i]? = some (xs[i]'(by rw [h.1]; exact hi)) := List.getElem?_eq_getElem _
  exact ⟨_, hx, h.2 i _ d hx e⟩
theorem Rp.lst' {a : Addr} {xs : List V} {ds : List D} (h : H a = some (.lst xs)) (n : ¬ A a) (r : RpA g A H xs ds) : Rp g A H (.ref a) (.lst ds) := .lst h n r.1 r.2
theorem Rp.tup' {a : Addr} {xs : List V} {ds : List D} (h : H a = some (.tup xs)) (n : ¬ A a) (r : RpA g A H xs ds) : Rp g A H (.ref a) (.tup ds) := .tup h n r.1 r.2
theorem Rp.inv_non {v : V} (r : Rp g A H v .non) : v = .non := by cases r; rfl
theorem Rp.inv_bl {v : V} {b : Bool} (r : Rp g A H v (.bl b)) : v = .bl b := by cases r; rfl
theorem Rp.inv_int {v : V} {i : Int} (r : Rp g A H v (.int i)) : v = .int i := by cases r; rfl
theorem Rp.inv_str {v : V} {s : Str} (r : Rp g A H v (.str s)) : v = .str s := by cases r; rfl
theorem Rp.inv_lst {v : V} {ds : List D} (r : Rp g A H v (.lst ds)) : ∃ a xs, v = .ref a ∧ H a = some (.lst xs) ∧ ¬ A a ∧ RpA g A H xs ds := by
  cases r with
  | lst h n hl q => exact ⟨_, _, rfl, h, n, hl, q⟩
theorem Rp.inv_tup {v : V} {ds : List D} (r : Rp g A H v (.tup ds)) : ∃ a xs, v = .ref a ∧ H a = some (.tup xs) ∧ ¬ A a ∧ RpA g A H xs ds := by
  cases r with
  | tup h n hl q => exact ⟨_, _, rfl, h, n, hl, q⟩
theorem Rp.inv_kt {v : V} {ds : List D} (r : Rp g A H v (.kt ds)) : ∃ a xs, v = .ref a ∧ KT g.K A H a xs ∧ RpA g A H xs ds := by
  cases r with
  | ktup h hl q => exact ⟨_, _, rfl, h, hl, q⟩
/-- the items of a list, a tuple -/
def seqD : D → Option (List D)
  | .lst ds => some ds
  | .tup ds => some ds
  | .kt ds => some ds
  | .ks ds => some ds
  | _ => none
theorem Rp.seq {v : V} {d : D} {ds : List D} (r : Rp g A H v d) (e : seqD d = some ds) : ∃ a xs, v = .ref a ∧ (SqL g.K H a xs ∨ SqT g.K H a xs) ∧ RpA g A H xs ds := by
  cases r with
  | lst h n hl q => cases Option.some.inj e; exact ⟨_, _, rfl, .inl (SqL.of h), hl, q⟩
  | tup h n hl q => cases Option.some.inj e; exact ⟨_, _, rfl, .inr (SqT.of h), hl, q⟩
  | ktup h hl q => cases Option.some.inj e; exact ⟨_, _, rfl, .inr h.sq, hl, q⟩
  | kls h n hl q => cases Option.some.inj e; exact ⟨_, _, rfl, .inl (.inl (.inr ⟨_, h⟩)), hl, q⟩
  | klw h hl q => cases Option.some.inj e; exact ⟨_, _, rfl, .inl (.inr h), hl, q⟩
  | _ => cases e
end
inductive Sl where
  | no | d (x : D) | rf (k : Nat)
/-- rK, rT: a dict of cells; o: an instance that is being made -/
inductive Ce where
  | dead | l (ds : List D) | dK (kvs : List (Key × D)) | dT (kvs : List (List Key × D)) | dN (kvs : List (D × D)) | rK (kvs : List (Key × Nat)) | rT (kvs : List (List Key × Nat)) | o (c : Nat) (fs : List (Str × Sl))
structure S where
  sl : List Sl
  ce : List Ce
def Ce.alive : Ce → Bool
  | .dead => false
  | _ => true
/-- where a frame's cells stand; what is not to be spoken of -/
structure Rh where
  ad : List Addr
  U : Addr → Prop
/-- the addresses that may change: those of the cells that are alive -/
def Vol (ρ : Rh) (st : S) (a : Addr) : Prop := ρ.U a ∨ ∃ (k : Nat) (c : Ce), st.ce[k]? = some c ∧ c.alive = true ∧ ρ.ad[k]? = some a
/-- cells, item by item -/
def RfA (ad : List Addr) (vs : List V) (ks : List Nat) : Prop := vs.length = ks.length ∧ ∀ (i : Nat) v k, vs[i]? = some v → ks[i]? = some k → ∃ b, v = .ref b ∧ ad[k]? = some b
def SlV (g : G) (A : Addr → Prop) (ad : List Addr) (H : Hp) (v : V) : Sl → Prop
  | .no => False
  | .d x => Rp g A H v x
  | .rf k => ∃ b, v = .ref b ∧ ad[k]? = some b
def SlA (g : G) (A : Addr → Prop) (ad : List Addr) (H : Hp) (vs : List V) (ss : List Sl) : Prop := vs.length = ss.length ∧ ∀ (i : Nat) v s, vs[i]? = some v → ss[i]? = some s → SlV g A ad H v s
mutual
/-- a datum as a key -/
def nkD : D → Option NestedKey
  | .int i => some (.num i)
  | .bl b => some (.num (if b = true then 1 else 0))
  | .tup ds => match nkDs ds with
    | some ks => some (.tup ks)
    | none => none
  | .kt ds => match nkDs ds with
    | some ks => some (.tup ks)
    | none => none
  | _ => none
def nkDs : List D → Option (List NestedKey)
  | [] => some []
  | d :: ds => match nkD d, nkDs ds with
    | some k, some ks => some (k :: ks)
    | _, _ => none
end
/-- what a cell says of its object -/
def CeOk (g : G) (A : Addr → Prop) (ad : List Addr) (H : Hp) (a : Addr) : Ce → Prop
  | .rK ds => ∃ xs : List (Key × V), H a = some (.dK xs) ∧ xs.map (·.1) = ds.map (·.1) ∧ RfA ad (xs.map (·.2)) (ds.map (·.2))
  | .rT ds => ∃ xs : List (List Key × V), H a = some (.dT xs) ∧ xs.map (·.1) = ds.map (·.1) ∧ RfA ad (xs.map (·.2)) (ds.map (·.2))
  | .o c fs => ∃ (dx : Addr) (xs : List (Str × V)), H a = some (.ins (g.C c) dx xs) ∧ xs.map (·.1) = fs.map (·.1) ∧ SlA g A ad H (xs.map (·.2)) (fs.map (·.2))
  | .dead => True
  | .l ds => ∃ xs, H a = some (.lst xs) ∧ RpA g A H xs ds
  | .dK ds => ∃ xs : List (Key × V), H a = some (.dK xs) ∧ xs.map (·.1) = ds.map (·.1) ∧ RpA g A H (xs.map (·.2)) (ds.map (·.2))
  | .dT ds => ∃ xs : List (List Key × V), H a = some (.dT xs) ∧ xs.map (·.1) = ds.map (·.1) ∧ RpA g A H (xs.map (·.2)) (ds.map (·.2))
  | .dN ds => ∃ xs : List (NestedKey × Addr × V), H a = some (NdO a xs) ∧ xs.map (fun x => some x.1) = ds.map (fun d => nkD d.1) ∧ RpA g A H (xs.map fun x => V.ref x.2.1) (ds.map (·.1)) ∧ RpA g A H (xs.map (·.2.2)) (ds.map (·.2))
def SlOk (g : G) (A : Addr → Prop) (ρ : Rh) (H : Hp) (v : Option V) : Sl → Prop
  | .no => True
  | .d x => ∃ u, v = some u ∧ Rp g A H u x
  | .rf k => ∃ a, v = some (.ref a) ∧ ρ.ad[k]? = some a
/-- the cells' part of it -/
structure Cells (g : G) (ρ : Rh) (H : Hp) (st : S) : Prop where
  uok : ∀ a, ρ.U a → ∃ o, H a = some o ∧ NT o
  clen : ρ.ad.length = st.ce.length
  cell : ∀ (k : Nat) c a, st.ce[k]? = some c → ρ.ad[k]? = some a → CeOk g (Vol ρ st) ρ.ad H a c
  inj : ∀ (j k : Nat) (c c' : Ce) a, st.ce[j]? = some c → st.ce[k]? = some c' → c.alive = true → c'.alive = true → ρ.ad[j]? = some a → ρ.ad[k]? = some a → j = k
  out : ∀ (k : Nat) c a, st.ce[k]? = some c → c.alive = true → ρ.ad[k]? = some a → ¬ ρ.U a
theorem Cells.uo {g : G} {ρ : Rh} {H : Hp} {st : S} (s : Cells g ρ H st) : ∀ a, ρ.U a → ∃ o, H a = some o := fun a h => let ⟨o, e, _⟩ := s.uok a h; ⟨o, e⟩
theorem CeOk.nt {g : G} {A : Addr → Prop} {ad : List Addr} {H : Hp} {a : Addr} {c : Ce} (h : CeOk g A ad H a c) (al : c.alive = true) : ∃ o, H a = some o ∧ NT o := by
  cases c with
  | dead => cases al
  | l ds => obtain ⟨xs, e, _⟩ := h; exact ⟨_, e, fun _ z => by cases z⟩
  | dK ds => obtain ⟨xs, e, _⟩ := h; exact ⟨_, e, fun _ z => by cases z⟩
  | dT ds => obtain ⟨xs, e, _⟩ := h; exact ⟨_, e, fun _ z => by cases z⟩
  | dN ds => obtain ⟨xs, e, _⟩ := h; exact ⟨_, e, fun _ z => by unfold NdO at z; cases z⟩
  | rK ds => obtain ⟨xs, e, _⟩ := h; exact ⟨_, e, fun _ z => by cases z⟩
  | rT ds => obtain ⟨xs, e, _⟩ := h; exact ⟨_, e, fun _ z => by cases z⟩
  | o c fs => obtain ⟨dx, xs, e, _⟩ := h; exact ⟨_, e, fun _ z => by cases z⟩
structure Sim (g : G) (ρ : Rh) (σ : L2.St) (H : Hp) (st : S) : Prop extends Cells g ρ H st where
  len : σ.length = st.sl.length
  slot : ∀ (i : Nat) s v, st.sl[i]? = some s → σ[i]? = some v → SlOk g (Vol ρ st) ρ H v s
/-- from one state to a later one -/
structure Ext (ρ : Rh) (st : S) (H : Hp) (ρ' : Rh) (st' : S) (H' : Hp) : Prop where
  keep : ∀ a o, H a = some o → ¬ Vol ρ st a → H' a = some o ∧ ¬ Vol ρ' st' a
  pre : ∀ (k : Nat) a, ρ.ad[k]? = some a → ρ'.ad[k]? = some a
  same : ρ'.U = ρ.U
  un : ∀ a, ρ.U a → H' a = H a
  more : ∀ a, Vol ρ' st' a → Vol ρ st a ∨ H a = none
  mono : ∀ a, H' a = none → H a = none
theorem Ext.refl {ρ : Rh} {st : S} {H : Hp} : Ext ρ st H ρ st H := ⟨fun _ _ h n => ⟨h, n⟩, fun _ _ h => h, rfl, fun _ _ => rfl, fun _ h => .inl h, fun _ h => h⟩
theorem Ext.trans {ρ ρ1 ρ2 : Rh} {st st1 st2 : S} {H H1 H2 : Hp} (a : Ext ρ st H ρ1 st1 H1) (b : Ext ρ1 st1 H1 ρ2 st2 H2) : Ext ρ st H ρ2 st2 H2 where
  keep := fun x o h n => by
    obtain ⟨h1, n1⟩ := a.keep x o h n
    exact b.keep x o h1 n1
  pre := fun k x h => b.pre k x (a.pre k x h)
  same := b.same.trans a.same
  un := fun x h => (b.un x (by rw [a.same]; exact h)).trans (a.un x h)
  more := fun x h => by
    rcases b.more x h with h1 | h1
    · exact a.more x h1
    · exact .inr (a.mono x h1)
  mono := fun x h => a.mono x (b.mono x h)
theorem Sim.volT {g : G} {ρ : Rh} {σ : L2.St} {H : Hp} {st : S} (s : Sim g ρ σ H st) {a : Addr} (v : Vol ρ st a) : ∃ o, H a = some o ∧ NT o := by
  rcases v with v | ⟨k, c, hc, ha, hr⟩
  · exact s.uok a v
  · exact (s.cell k c a hc hr).nt ha
theorem Sim.vol {g : G} {ρ : Rh} {σ : L2.St} {H : Hp} {st : S} (s : Sim g ρ σ H st) {a : Addr} (v : Vol ρ st a) : ∃ o, H a = some o := by
  rcases v with v | ⟨k, c, hc, ha, hr⟩
  · exact s.uo a v
  obtain ⟨o, e, _⟩ := (s.cell k c a hc hr).nt ha
  exact ⟨o, e⟩
theorem Rp.go {g : G} {ρ ρ' : Rh} {st st' : S} {H H' : Hp} {v : V} {d : D} (r : Rp g (Vol ρ st) H v d) (e : Ext ρ st H ρ' st' H') : Rp g (Vol ρ' st') H' v d := r.ext e.keep
theorem RpA.go {g : G} {ρ ρ' : Rh} {st st' : S} {H H' : Hp} {v : List V} {d : List D} (r : RpA g (Vol ρ st) H v d) (e : Ext ρ st H ρ' st' H') : RpA g (Vol ρ' st') H' v d := r.ext e.keep
section
variable {g : G} {ρ : Rh} {σ : L2.St} {H : Hp} {st : S} {p : Addr} {o : HO}
theorem Ext.new (s : Sim g ρ σ H st) (hp : H p = none) : Ext ρ st H ρ st (upd H p o) where
  keep := fun a u h n => ⟨by rw [upd_ne (ne_of_none h hp)]; exact h, n⟩
  pre := fun _ _ h => h
  same := rfl
  un := fun a h => by
    obtain ⟨u, hu⟩ := s.uo a h
    exact upd_ne (ne_of_none hu hp)
  more := fun _ h => .inl h
  mono := fun a h => by
    by_cases e : a = p
    · rw [e]; exact hp
    · rw [upd_ne e] at h; exact h
theorem Sim.nvol (s : Sim g ρ σ H st) (hp : H p = none) : ¬ Vol ρ st p := fun v => by
  obtain ⟨o, h⟩ := s.vol v
  rw [hp] at h; cases h
theorem RfA.go {ad ad' : List Addr} {vs : List V} {ks : List Nat} (h : RfA ad vs ks) (pre : ∀ (k : Nat) b, ad[k]? = some b → ad'[k]? = some b) : RfA ad' vs ks :=
  ⟨h.1, fun i v k h1 h2 => let ⟨b, e, q⟩ := h.2 i v k h1 h2; ⟨b, e, pre k b q⟩⟩
theorem SlA.go {A A' : Addr → Prop} {H' : Hp} {ad ad' : List Addr} {vs : List V} {ss : List Sl} (h : SlA g A ad H vs ss) (k : ∀ a o, H a = some o → ¬ A a → H' a = some o ∧ ¬ A' a) (pre : ∀ (k : Nat) b, ad[k]? = some b → ad'[k]? = some b) : SlA g A' ad' H' vs ss :=
  ⟨h.1, fun i v s h1 h2 => by
    have q := h.2 i v s h1 h2
    cases s with
    | no => exact q
    | d x => exact Rp.ext q k
    | rf j => obtain ⟨b, e, z⟩ := q; exact ⟨b, e, pre j b z⟩⟩
theorem CeOk.ext {A A' : Addr → Prop} {ad ad' : List Addr} {H' : Hp} {a : Addr} {c : Ce} (h : CeOk g A ad H a c) (ha : H' a = H a) (k : ∀ a o, H a = some o → ¬ A a → H' a = some o ∧ ¬ A' a) (pre : ∀ (k : Nat) b, ad[k]? = some b → ad'[k]? = some b := by exact fun _ _ h => h) : CeOk g A' ad' H' a c := by
  cases c with
  | dN ds => obtain ⟨xs, e, q, r, u⟩ := h; exact ⟨xs, by rw [ha]; exact e, q, r.ext k, u.ext k⟩
  | rK ds => obtain ⟨xs, e, q, r⟩ := h; exact ⟨xs, by rw [ha]; exact e, q, r.go pre⟩
  | rT ds => obtain ⟨xs, e, q, r⟩ := h; exact ⟨xs, by rw [ha]; exact e, q, r.go pre⟩
  | o c fs => obtain ⟨dx, xs, e, q, r⟩ := h; exact ⟨dx, xs, by rw [ha]; exact e, q, r.go k pre⟩
  | dead => trivial
  | l ds => obtain ⟨xs, e, r⟩ := h; exact ⟨xs, by rw [ha]; exact e, r.ext k⟩
  | dK ds => obtain ⟨xs, e, q, r⟩ := h; exact ⟨xs, by rw [ha]; exact e, q, r.ext k⟩
  | dT ds => obtain ⟨xs, e, q, r⟩ := h; exact ⟨xs, by rw [ha]; exact e, q, r.ext k⟩
/-- a new object beside -/
theorem Cells.new (s : Cells g ρ H st) (hp : H p = none) (e : Ext ρ st H ρ st (upd H p o)) : Cells g ρ (upd H p o) st where
  uok := fun a h => by
    obtain ⟨u, hu, nt⟩ := s.uok a h
    exact ⟨u, by rw [upd_ne (ne_of_none hu hp)]; exact hu, nt⟩
  clen := s.clen
  cell := fun k c a h1 h2 => by
    have q := s.cell k c a h1 h2
    by_cases hc : c.alive = true
    · have hv : Vol ρ st a := .inr ⟨k, c, h1, hc, h2⟩
      have hs : ∃ u, H a = some u := by
        obtain ⟨u, e, _⟩ := q.nt hc
        exact ⟨u, e⟩
      obtain ⟨u, hu⟩ := hs
      exact q.ext (upd_ne (ne_of_none hu hp)) e.keep
    · cases c <;> first | trivial | exact absurd rfl hc
  inj := s.inj
  out := s.out
theorem Sim.new (s : Sim g ρ σ H st) (hp : H p = none) : Sim g ρ σ (upd H p o) st where
  toCells := s.toCells.new hp (Ext.new s hp)
  len := s.len
  slot := fun i sl v h1 h2 => by
    have q := s.slot i sl v h1 h2
    cases sl with
    | no => trivial
    | d x => obtain ⟨u, e, r⟩ := q; exact ⟨u, e, r.go (Ext.new s hp)⟩
    | rf k => exact q
end
end RE
set_option maxHeartbeats 2000000
namespace RE
open PySem PySem.Spec PyProof.Rows L2
inductive O (α : Type) where
  | ok (a : α) (st : S)
  | er (c : Nat) (vs : List D) (st : S)
  | no
/-- an answer that may lack -/
def optO {α : Type} (o : Option α) (st : S) : O α := match o with
  | some d => .ok d st
  | none => .no
def bindO {α β : Type} (o : O α) (f : α → S → O β) : O β := match o with
  | .ok a st => f a st
  | .er c vs st => .er c vs st
  | .no => .no
/-- what is wanted of an error: its class, its fields, the state -/
abbrev EK := Nat → List D → Rh → S → Hp → Prop
def OutC {α : Type} (ER : EK) (ρ : Rh) (st : S) (H : Hp) (o : O α) (k : α → S → Rh → Hp → Prop) : Prop := match o with
  | .ok a st' => ∀ ρ' H', Ext ρ st H ρ' st' H' → k a st' ρ' H'
  | .er c vs st' => ∀ ρ' H', Ext ρ st H ρ' st' H' → ER c vs ρ' st' H'
  | .no => False
section
variable {ER : EK} {ρ ρ1 : Rh} {st st1 : S} {H H1 : Hp} {α β : Type}
theorem OutC.mono {o : O α} {k k' : α → S → Rh → Hp → Prop} (h : OutC ER ρ st H o k) (hk : ∀ a st' ρ' H', Ext ρ st H ρ' st' H' → k a st' ρ' H' → k' a st' ρ' H') : OutC ER ρ st H o k' := by
  cases o with
  | ok a st' => exact fun ρ' H' e => hk a st' ρ' H' e (h ρ' H' e)
  | er c vs st' => exact h
  | no => exact h
theorem OutC.later {o : O α} {k : α → S → Rh → Hp → Prop} (h : OutC ER ρ st H o k) (e : Ext ρ st H ρ1 st1 H1) : OutC ER ρ1 st1 H1 o k := by
  cases o with
  | ok a st' => exact fun ρ' H' e' => h ρ' H' (e.trans e')
  | er c vs st' => exact fun ρ' H' e' => h ρ' H' (e.trans e')
  | no => exact h
theorem OutC.bind {o : O α} {f : α → S → O β} {k : β → S → Rh → Hp → Prop} (h : OutC ER ρ st H (bindO o f) k) : OutC ER ρ st H o fun a st' ρ' H' => OutC ER ρ' st' H' (f a st') k := by
  cases o with
  | ok a st' => exact fun ρ' H' e => OutC.later h e
  | er c vs st' => exact h
  | no => exact h
end
abbrev M := S → O D
abbrev MT := S → O Bool
abbrev MA := S → O (List D)
section
variable (g : G) (ER : EK)
def tM (m : M) : TE := fun σ H Q => ∃ ρ st, Sim g ρ σ H st ∧ OutC ER ρ st H (m st) fun d st' ρ' H' => Sim g ρ' σ H' st' → ∀ v, Rp g (Vol ρ' st') H' v d → Q v H'
def tMT (m : MT) : TT := fun σ H Q => ∃ ρ st, Sim g ρ σ H st ∧ OutC ER ρ st H (m st) fun b st' ρ' H' => Sim g ρ' σ H' st' → Q b H'
def tMA (m : MA) : TA := fun σ H Q => ∃ ρ st, Sim g ρ σ H st ∧ OutC ER ρ st H (m st) fun ds st' ρ' H' => Sim g ρ' σ H' st' → ∀ vs, RpA g (Vol ρ' st') H' vs ds → Q vs H'
end
theorem PEi {X : Cx} {e : Expr} {t t' : TE} (p : PE X e t) (h : ∀ σ H Q, t' σ H Q → t σ H Q) : PE X e t' := ⟨fun pq s σ H Q I q => p.run pq s σ H Q I (h _ _ _ q)⟩
theorem PTi {X : Cx} {e : Expr} {t t' : TT} (p : PT X e t) (h : ∀ σ H Q, t' σ H Q → t σ H Q) : PT X e t' := ⟨fun pq s σ H Q I q => p.run pq s σ H Q I (h _ _ _ q)⟩
theorem PWi {X : Cx} {e : Expr} {t t' : TT} (p : PW X e t) (h : ∀ σ H Q, t' σ H Q → t σ H Q) : PW X e t' := ⟨fun wh pq s σ H Q I q => p.run wh pq s σ H Q I (h _ _ _ q)⟩
theorem PAi {X : Cx} {e : List Expr} {t t' : TA} (p : PA X e t) (h : ∀ σ H Q, t' σ H Q → t σ H Q) : PA X e t' := ⟨fun pos pq s σ H Q I q => p.run pos pq s σ H Q I (h _ _ _ q)⟩
def mC (d : D) : M := fun st => .ok d st
section
variable {X : Cx} {g : G} {ER : EK} {pos : Pos}
theorem pe_mC {e : Expr} {v : V} {d : D} (p : PE X e (tC v)) (r : ∀ A H, Rp g A H v d) : PE X e (tM g ER (mC d)) := by
  refine PEi p fun σ H Q h => ?_
  obtain ⟨ρ, st, s, h⟩ := h
  exact h ρ H Ext.refl s v (r _ _)
theorem pe_mInt {i : Int} {j} : PE X (.Constant (.int i) j pos) (tM g ER (mC (.int i))) := pe_mC pe_int fun _ _ => .int i
theorem pe_mBl {b : Bool} {j} : PE X (.Constant (.bool b) j pos) (tM g ER (mC (.bl b))) := pe_mC pe_bl fun _ _ => .bl b
theorem pe_mNon {j} : PE X (.Constant .none j pos) (tM g ER (mC .non)) := pe_mC pe_non fun _ _ => .non
def mBin (f : D → D → Option D) (ma mb : M) : M := fun st => bindO (ma st) fun a st1 => bindO (mb st1) fun b st2 => optO (f a b) st2
def ROp (g : G) (r : R2) (f : D → D → Option D) : Prop := ∀ (ρ : Rh) (σ : L2.St) (st : S) (H : Hp) (x y : V) (dx dy d : D) (Q : VK), f dx dy = some d → Sim g ρ σ H st → Rp g (Vol ρ st) H x dx → Rp g (Vol ρ st) H y dy →
  (∀ ρ' H' v, Ext ρ st H ρ' st H' → Sim g ρ' σ H' st → Rp g (Vol ρ' st) H' v d → Q v H') → r x y H Q
theorem tM_bin {r : R2} {f : D → D → Option D} {ma mb : M} (hf : ROp g r f) {σ : L2.St} {H : Hp} {Q : VK} (h : tM g ER (mBin f ma mb) σ H Q) : tOp r (tM g ER ma) (tM g ER mb) σ H Q := by
  obtain ⟨ρ, st, s, h⟩ := h
  refine ⟨ρ, st, s, (OutC.bind h).mono fun a st1 ρ1 H1 _ h1 s1 x rx => ?_⟩
  refine ⟨ρ1, st1, s1, (OutC.bind h1).mono fun b st2 ρ2 H2 e2 h2 s2 y ry => ?_⟩
  cases e : f a b with
  | none => rw [e] at h2; exact h2.elim
  | some d =>
    rw [e] at h2
    exact hf ρ2 σ st2 H2 x y a b d Q e s2 (rx.go e2) ry fun ρ' H' v e' s' r' => h2 ρ' H' e' s' v r'
theorem pe_mBin {op : Operator} {a b : Expr} {r : R2} {f : D → D → Option D} {ma mb : M} (ho : OpR X (binaryOp op) r) (hf : ROp g r f) (ha : PE X a (tM g ER ma)) (hb : PE X b (tM g ER mb)) : PE X (.BinOp a op b pos) (tM g ER (mBin f ma mb)) :=
  PEi (pe_op ho ha hb) fun _ _ _ h => tM_bin hf h
theorem pe_mCmp {op : CmpOp} {a b : Expr} {r : R2} {f : D → D → Option D} {ma mb : M} (ho : OpR X (compareOp op) r) (hf : ROp g r f) (ha : PE X a (tM g ER ma)) (hb : PE X b (tM g ER mb)) (hm : behindInMarks op b = false) : PE X (.Compare a [op] [b] pos) (tM g ER (mBin f ma mb)) :=
  PEi (pe_cmpR ho ha hb hm) fun _ _ _ h => tM_bin hf h
/-- a value that is a truth value, as a test -/
def mB (m : M) : MT := fun st => bindO (m st) fun d st' => match d with
  | .bl b => .ok b st'
  | _ => .no
theorem tMT_B {m : M} {σ : L2.St} {H : Hp} {Q : Bool → Hp → Prop} (h : tMT g ER (mB m) σ H Q) : tTest (tM g ER m) σ H Q := by
  obtain ⟨ρ, st, s, h⟩ := h
  refine ⟨ρ, st, s, (OutC.bind h).mono fun a st1 ρ1 H1 _ h1 s1 x rx => ?_⟩
  split at h1
  · exact ⟨_, rx.inv_bl, h1 ρ1 H1 Ext.refl s1⟩
  · exact h1.elim
theorem pt_mCmp {op : CmpOp} {a b : Expr} {r : R2} {f : D → D → Option D} {ma mb : M} (ho : OpR X (compareOp op) r) (hf : ROp g r f) (ha : PE X a (tM g ER ma)) (hb : PE X b (tM g ER mb)) (hm : behindInMarks op b = false) : PT X (.Compare a [op] [b] pos) (tMT g ER (mB (mBin f ma mb))) := by
  refine PTi (pt_cmpR ho ha hb hm) fun σ H Q h => ?_
  obtain ⟨ρ, st, s, h⟩ := tMT_B h
  exact tM_bin hf ⟨ρ, st, s, h⟩
def truD : D → Option Bool
  | .non => some false
  | .bl b => some b
  | .int i => some (i != 0)
  | .str s => if s.length ≤ sizeLine then some ((s.length : Int) != 0) else none
  | .lst ds => some (!ds.isEmpty)
  | .tup ds => some (!ds.isEmpty)
  | .kt ds => some (!ds.isEmpty)
  | _ => none
theorem empty_of {α β : Type} {xs : List α} {ds : List β} (h : xs.length = ds.length) : xs.isEmpty = ds.isEmpty := by
  cases xs <;> cases ds <;> simp_all
theorem truD_ok {A : Addr → Prop} {H : Hp} {v : V} {d : D} {k : Bool} (r : Rp g A H v d) (h : truD d = some k) : TruV g.K v H k := by
  cases r with
  | non => exact (Option.some.inj h).symm
  | bl b => exact (Option.some.inj h).symm
  | int i => exact (Option.some.inj h).symm
  | str s =>
    have h' : (if s.length ≤ sizeLine then some ((s.length : Int) != 0) else none) = some k := h
    by_cases hz : s.length ≤ sizeLine
    · rw [if_pos hz] at h'
      exact ⟨hz, (Option.some.inj h').symm⟩
    · rw [if_neg hz] at h'
      cases h'
  | lst h1 _ hl _ => exact .inl ⟨_, SqL.of h1, by rw [empty_of hl]; exact (Option.some.inj h).symm⟩
  | tup h1 _ hl _ => exact .inr (.inl ⟨_, SqT.of h1, by rw [empty_of hl]; exact (Option.some.inj h).symm⟩)
  | ktup h1 hl _ => exact .inr (.inl ⟨_, h1.sq, by rw [empty_of hl]; exact (Option.some.inj h).symm⟩)
  | kls h1 _ hl _ => cases h
  | klw h1 hl _ => cases h
  | dK _ _ _ _ _ => cases h
  | dT _ _ _ _ _ => cases h
  | fn i => cases h
  | ob _ _ _ _ _ => cases h
def mTru (m : M) : MT := fun st => bindO (m st) fun d st' => match truD d with
  | some b => .ok b st'
  | none => .no
theorem pt_mTru {a : Expr} {m : M} (hk : X.K = g.K) (ha : PE X a (tM g ER m)) (he : ∀ whole, isTrue a X.env whole = (do let v ← whole; standAt a.pos; holding [v] (truthy v))) : PT X a (tMT g ER (mTru m)) := by
  refine PTi (pt_truth ha he) fun σ H Q h => ?_
  obtain ⟨ρ, st, s, h⟩ := h
  refine ⟨ρ, st, s, (OutC.bind h).mono fun d st1 ρ1 H1 _ h1 s1 x rx => ?_⟩
  split at h1
  · rename_i b e
    exact ⟨b, by rw [hk]; exact truD_ok rx e, h1 ρ1 H1 Ext.refl s1⟩
  · exact h1.elim
def mNotT (m : MT) : MT := fun st => bindO (m st) fun b st' => .ok (!b) st'
theorem pt_mNot {a : Expr} {m : MT} (ha : PT X a (tMT g ER m)) : PT X (.UnaryOp .Not a pos) (tMT g ER (mNotT m)) := by
  refine PTi (pt_not ha) fun σ H Q h => ?_
  obtain ⟨ρ, st, s, h⟩ := h
  exact ⟨ρ, st, s, (OutC.bind h).mono fun b st1 ρ1 H1 _ h1 s1 => h1 ρ1 H1 Ext.refl s1⟩
def mAndT (m n : MT) : MT := fun st => bindO (m st) fun b st' => if b = true then n st' else .ok false st'
def mOrT (m n : MT) : MT := fun st => bindO (m st) fun b st' => if b = true then .ok true st' else n st'
theorem pw_mAnd {a b : Expr} {rest : List Expr} {m n : MT} (ha : PT X a (tMT g ER m)) (hb : PW X (.BoolOp .And (b :: rest) pos) (tMT g ER n)) : PW X (.BoolOp .And (a :: b :: rest) pos) (tMT g ER (mAndT m n)) := by
  refine PWi (pw_and ha hb) fun σ H Q h => ?_
  obtain ⟨ρ, st, s, h⟩ := h
  refine ⟨ρ, st, s, (OutC.bind h).mono fun b st1 ρ1 H1 _ h1 s1 => ?_⟩
  cases b with
  | true => exact ⟨ρ1, st1, s1, h1⟩
  | false => exact h1 ρ1 H1 Ext.refl s1
theorem pw_mOr {a b : Expr} {rest : List Expr} {m n : MT} (ha : PT X a (tMT g ER m)) (hb : PW X (.BoolOp .Or (b :: rest) pos) (tMT g ER n)) : PW X (.BoolOp .Or (a :: b :: rest) pos) (tMT g ER (mOrT m n)) := by
  refine PWi (pw_or ha hb) fun σ H Q h => ?_
  obtain ⟨ρ, st, s, h⟩ := h
  refine ⟨ρ, st, s, (OutC.bind h).mono fun b st1 ρ1 H1 _ h1 s1 => ?_⟩
  cases b with
  | false => exact ⟨ρ1, st1, s1, h1⟩
  | true => exact h1 ρ1 H1 Ext.refl s1
/-- and, or, not as values, by truth -/
def mAnd (m n : M) : M := fun st => bindO (m st) fun d st' => match truD d with
  | some true => n st'
  | some false => .ok d st'
  | none => .no
def mNot (m : M) : M := fun st => bindO (m st) fun d st' => match truD d with
  | some b => .ok (.bl (!b)) st'
  | none => .no
theorem pe_mAnd {a b : Expr} {rest : List Expr} {m n : M} (hk : X.K = g.K) (ha : PE X a (tM g ER m)) (hb : PE X (.BoolOp .And (b :: rest) pos) (tM g ER n)) : PE X (.BoolOp .And (a :: b :: rest) pos) (tM g ER (mAnd m n)) := by
  refine PEi (pe_andT ha hb) fun σ H Q h => ?_
  obtain ⟨ρ, st, s, h⟩ := h
  refine ⟨ρ, st, s, (OutC.bind h).mono fun d st1 ρ1 H1 _ h1 s1 x rx => ?_⟩
  split at h1
  · rename_i e
    exact ⟨true, by rw [hk]; exact truD_ok rx e, iteT ⟨ρ1, st1, s1, h1⟩⟩
  · rename_i e
    exact ⟨false, by rw [hk]; exact truD_ok rx e, iteF (h1 ρ1 H1 Ext.refl s1 x rx)⟩
  · exact h1.elim
theorem pe_mNot {a : Expr} {m : M} (hk : X.K = g.K) (ha : PE X a (tM g ER m)) : PE X (.UnaryOp .Not a pos) (tM g ER (mNot m)) := by
  refine PEi (pe_notT ha) fun σ H Q h => ?_
  obtain ⟨ρ, st, s, h⟩ := h
  refine ⟨ρ, st, s, (OutC.bind h).mono fun d st1 ρ1 H1 _ h1 s1 x rx => ?_⟩
  split at h1
  · rename_i b e
    exact ⟨b, by rw [hk]; exact truD_ok rx e, h1 ρ1 H1 Ext.refl s1 _ (.bl _)⟩
  · exact h1.elim
def mIfE (t : MT) (m n : M) : M := fun st => bindO (t st) fun b st' => if b = true then m st' else n st'
theorem pe_mIfE {c a b : Expr} {t : MT} {m n : M} (hc : PT X c (tMT g ER t)) (ha : PE X a (tM g ER m)) (hb : PE X b (tM g ER n)) : PE X (.IfExp c a b pos) (tM g ER (mIfE t m n)) := by
  refine PEi (pe_ifExp hc ha hb) fun σ H Q h => ?_
  obtain ⟨ρ, st, s, h⟩ := h
  refine ⟨ρ, st, s, (OutC.bind h).mono fun b st1 ρ1 H1 _ h1 s1 => ?_⟩
  cases b with
  | true => exact ⟨ρ1, st1, s1, h1⟩
  | false => exact ⟨ρ1, st1, s1, h1⟩
def mNeg (m : M) : M := fun st => bindO (m st) fun d st' => match d with
  | .int i => .ok (.int (-i)) st'
  | _ => .no
theorem pe_mNeg {a : Expr} {m : M} (ha : PE X a (tM g ER m)) : PE X (.UnaryOp .USub a pos) (tM g ER (mNeg m)) := by
  refine PEi (pe_un un_neg ha) fun σ H Q h => ?_
  obtain ⟨ρ, st, s, h⟩ := h
  refine ⟨ρ, st, s, (OutC.bind h).mono fun d st1 ρ1 H1 _ h1 s1 x rx => ?_⟩
  split at h1
  · rename_i i
    exact ⟨i, rx.inv_int, h1 ρ1 H1 Ext.refl s1 _ (.int _)⟩
  · exact h1.elim
def mNil : MA := fun st => .ok [] st
def mCons (m : M) (ms : MA) : MA := fun st => bindO (m st) fun d st1 => bindO (ms st1) fun ds st2 => .ok (d :: ds) st2
theorem pa_mNil : PA X [] (tMA g ER mNil) := PAi pa_nil fun σ H Q h => by
  obtain ⟨ρ, st, s, h⟩ := h
  exact h ρ H Ext.refl s [] RpA.nil
theorem pa_mCons {e : Expr} {es : List Expr} {m : M} {ms : MA} (ha : PE X e (tM g ER m)) (hr : PA X es (tMA g ER ms)) (hs : starEach (e :: es) X.env = (false, eval e X.env) :: starEach es X.env := by rfl) : PA X (e :: es) (tMA g ER (mCons m ms)) := by
  refine PAi (pa_cons ha hr hs) fun σ H Q h => ?_
  obtain ⟨ρ, st, s, h⟩ := h
  refine ⟨ρ, st, s, (OutC.bind h).mono fun d st1 ρ1 H1 _ h1 s1 x rx => ?_⟩
  refine ⟨ρ1, st1, s1, (OutC.bind h1).mono fun ds st2 ρ2 H2 e2 h2 s2 xs rs => ?_⟩
  exact h2 ρ2 H2 Ext.refl s2 (x :: xs) (RpA.cons (rx.go e2) rs)
def mTup (ms : MA) : M := fun st => bindO (ms st) fun ds st1 => if ds.length ≤ 1000 then .ok (.tup ds) st1 else .no
def mLst (ms : MA) : M := fun st => bindO (ms st) fun ds st1 => if ds.length ≤ 1000 then .ok (.lst ds) st1 else .no
theorem pe_mTup {es : List Expr} {ms : MA} {x1} (h : PA X es (tMA g ER ms)) : PE X (.Tuple es x1 pos) (tM g ER (mTup ms)) := by
  refine PEi (pe_tup h) fun σ H Q h => ?_
  obtain ⟨ρ, st, s, h⟩ := h
  refine ⟨ρ, st, s, (OutC.bind h).mono fun ds st1 ρ1 H1 _ h1 s1 xs rs => ?_⟩
  split at h1
  · rename_i hz
    refine ⟨by rw [rs.1]; exact Nat.le_of_lt (small1000 hz), fun p hp => ?_⟩
    exact h1 ρ1 _ (Ext.new s1 hp) (s1.new hp) _ (Rp.tup' upd_same (s1.nvol hp) (rs.go (Ext.new s1 hp)))
  · exact h1.elim
theorem pe_mLst {es : List Expr} {ms : MA} (h : PA X es (tMA g ER ms)) : PE X (.List es pos) (tM g ER (mLst ms)) := by
  refine PEi (pe_lst h) fun σ H Q h => ?_
  obtain ⟨ρ, st, s, h⟩ := h
  refine ⟨ρ, st, s, (OutC.bind h).mono fun ds st1 ρ1 H1 _ h1 s1 xs rs => ?_⟩
  split at h1
  · rename_i hz
    refine ⟨by rw [rs.1]; exact Nat.le_of_lt (small1000 hz), fun p hp => ?_⟩
    exact h1 ρ1 _ (Ext.new s1 hp) (s1.new hp) _ (Rp.lst' upd_same (s1.nvol hp) (rs.go (Ext.new s1 hp)))
  · exact h1.elim
end
end RE
set_option maxHeartbeats 2000000
namespace RE
open PySem PySem.Spec PyProof.Rows L2
def mapO {α β : Type} (f : α → Option β) : List α → Option (List β)
  | [] => some []
  | x :: xs => match f x with
    | some y => match mapO f xs with
      | some ys => some (y :: ys)
      | none => none
    | none => none
theorem mapO_cons {α β : Type} {f : α → Option β} {x : α} {xs : List α} {zs : List β} (h : mapO f (x :: xs) = some zs) : ∃ y ys, f x = some y ∧ mapO f xs = some ys ∧ zs = y :: ys := by
  unfold mapO at h
  cases e : f x with
  | none => (rw [e] at h; cases h)
  | some y =>
    rw [e] at h
    cases e2 : mapO f xs with
    | none => rw [e2] at h; cases h
    | some ys => rw [e2] at h; exact ⟨y, ys, rfl, rfl, (Option.some.inj h).symm⟩
/-- as data, nested at most n deep -/
def toP : Nat → D → Option PyData
  | _, .non => some .none
  | _, .bl b => some (.bool b)
  | _, .int i => some (.int i)
  | _, .str s => some (.str s)
  | n + 1, .lst ds => (mapO (toP n) ds).map .list
  | n + 1, .tup ds => (mapO (toP n) ds).map .tuple
  | n + 1, .kt ds => (mapO (toP n) ds).map .tuple
  | _, _ => none
section
variable {g : G} {A : Addr → Prop} {H : Hp}
theorem toP_ok : ∀ (n : Nat) (d : D) (p : PyData) (v : V), toP n d = some p → Rp g A H v d → Dp g.K H v p ∧ p.plain = true ∧ p.depth ≤ n := by
  intro n
  induction n with
  | zero =>
    intro d p v h r
    cases d <;> first
      | (simp only [toP] at h; cases r; cases (Option.some.inj h); exact ⟨by constructor, rfl, Nat.le_refl _⟩)
      | (simp only [toP] at h; cases h)
  | succ n ih =>
    have all : ∀ (ds : List D) (ps : List PyData) (vs : List V), mapO (toP n) ds = some ps → RpA g A H vs ds → DpAll g.K H vs ps ∧ PyData.plainAll ps = true ∧ PyData.depthAll ps ≤ n := by
      intro ds
      induction ds with
      | nil =>
        intro ps vs h r
        cases (Option.some.inj h)
        rw [r.cases_nil]
        exact ⟨.nil, rfl, Nat.zero_le _⟩
      | cons d ds ihd =>
        intro ps vs h r
        obtain ⟨x, xs, rfl, r1, r2⟩ := r.cases_cons
        obtain ⟨y, ys, e1, e2, rfl⟩ := mapO_cons h
        obtain ⟨a1, a2, a3⟩ := ih d y x e1 r1
        obtain ⟨b1, b2, b3⟩ := ihd ys xs e2 r2
        exact ⟨.cons a1 b1, by simp only [PyData.plainAll, a2, b2]; rfl, by simp only [PyData.depthAll]; omega⟩
    intro d p v h r
    cases d with
    | non => simp only [toP] at h; cases r; cases (Option.some.inj h); exact ⟨.non, rfl, Nat.zero_le _⟩
    | bl b => simp only [toP] at h; cases r; cases (Option.some.inj h); exact ⟨.bl b, rfl, Nat.zero_le _⟩
    | int i => simp only [toP] at h; cases r; cases (Option.some.inj h); exact ⟨.int i, rfl, Nat.zero_le _⟩
    | str s => simp only [toP] at h; cases r; cases (Option.some.inj h); exact ⟨.str s, rfl, Nat.zero_le _⟩
    | lst ds =>
      simp only [toP] at h
      obtain ⟨ps, e, rfl⟩ := Option.map_eq_some_iff.mp h
      obtain ⟨a, xs, rfl, ha, _, rs⟩ := r.inv_lst
      obtain ⟨q1, q2, q3⟩ := all ds ps xs e rs
      exact ⟨.lst (SqL.of ha) q1, by simp only [PyData.plain, q2], by simp only [PyData.depth]; omega⟩
    | tup ds =>
      simp only [toP] at h
      obtain ⟨ps, e, rfl⟩ := Option.map_eq_some_iff.mp h
      obtain ⟨a, xs, rfl, ha, _, rs⟩ := r.inv_tup
      obtain ⟨q1, q2, q3⟩ := all ds ps xs e rs
      exact ⟨.tup (SqT.of ha) q1, by simp only [PyData.plain, q2], by simp only [PyData.depth]; omega⟩
    | kt ds =>
      simp only [toP] at h
      obtain ⟨ps, e, rfl⟩ := Option.map_eq_some_iff.mp h
      obtain ⟨a, xs, rfl, ha, rs⟩ := r.inv_kt
      obtain ⟨q1, q2, q3⟩ := all ds ps xs e rs
      exact ⟨.tup ha.sq q1, by simp only [PyData.plain, q2], by simp only [PyData.depth]; omega⟩
    | ks _ => simp only [toP] at h; cases h
    | dK _ => simp only [toP] at h; cases h
    | dT _ => simp only [toP] at h; cases h
    | fn _ => simp only [toP] at h; cases h
    | ob _ _ => simp only [toP] at h; cases h
end
section
variable {X : Cx}
theorem OpR.or {f : Value → Value → Sem Value} {r1 r2 : R2} (h1 : OpR X f r1) (h2 : OpR X f r2) : OpR X f (fun x y H Q => r1 x y H Q ∨ r2 x y H Q) := by
  intro pq s σ H x y v u Q I rx ry h
  rcases h with h | h
  · exact h1 pq s σ H x y v u Q I rx ry h
  · exact h2 pq s σ H x y v u Q I rx ry h
def rData (K : PySem.W.Frag) (ok : PyData → PyData → Prop) (f : PyData → PyData → Bool) : R2 := fun x y H Q => ∃ d e, Dp K H x d ∧ Dp K H y e ∧ d.plain = true ∧ e.plain = true ∧ d.depth ≤ 30 ∧ e.depth ≤ 30 ∧ ok d e ∧ Q (.bl (f d e)) H
theorem op_eqP (hu : X.A.units + 64 < cLine) : OpR X (compareOp .Eq) (rData X.K (fun _ _ => True) PyData.eqv) := by
  intro pq s σ H x y v u Q I rx ry h
  obtain ⟨d, e, hd, he, sd, se, d1, d2, _, q⟩ := h
  obtain ⟨la, r1⟩ := Dp.reads I d x v hd rx
  obtain ⟨lb, r2⟩ := Dp.reads I e y u he ry
  exact SeqAt.eq_plain r1 r2 sd se (by have := Nat.min_le_left d.depth e.depth; omega) ⟨.bl _, H, I, rfl, q⟩
theorem op_neP (hu : X.A.units + 64 < cLine) : OpR X (compareOp .NotEq) (rData X.K (fun _ _ => True) fun d e => !PyData.eqv d e) := by
  intro pq s σ H x y v u Q I rx ry h
  obtain ⟨d, e, hd, he, sd, se, d1, d2, _, q⟩ := h
  obtain ⟨la, r1⟩ := Dp.reads I d x v hd rx
  obtain ⟨lb, r2⟩ := Dp.reads I e y u he ry
  exact SeqAt.ne_plain r1 r2 sd se (by have := Nat.min_le_left d.depth e.depth; omega) ⟨.bl _, H, I, rfl, q⟩
def okLt (d e : PyData) : Prop := PySem.W.alike d e = true ∧ d ≠ .none
theorem op_ltP (hu : X.A.units + 64 < cLine) : OpR X (compareOp .Lt) (rData X.K okLt PySem.W.dataLt) := by
  intro pq s σ H x y v u Q I rx ry h
  obtain ⟨d, e, hd, he, sd, se, d1, d2, ⟨a1, a2⟩, q⟩ := h
  obtain ⟨la, r1⟩ := Dp.reads I d x v hd rx
  obtain ⟨lb, r2⟩ := Dp.reads I e y u he ry
  exact PySem.W.lt_data r1 r2 a1 a2 (by have := Nat.min_le_left d.depth e.depth; omega) ⟨.bl _, H, I, rfl, q⟩
theorem op_gtP (hu : X.A.units + 64 < cLine) : OpR X (compareOp .Gt) (rData X.K okLt fun d e => PySem.W.dataLt e d) := by
  intro pq s σ H x y v u Q I rx ry h
  obtain ⟨d, e, hd, he, sd, se, d1, d2, ⟨a1, a2⟩, q⟩ := h
  obtain ⟨la, r1⟩ := Dp.reads I d x v hd rx
  obtain ⟨lb, r2⟩ := Dp.reads I e y u he ry
  exact PySem.W.gt_data r1 r2 a1 a2 (by have := Nat.min_le_left d.depth e.depth; omega) ⟨.bl _, H, I, rfl, q⟩
theorem op_leP (hu : X.A.units + 64 < cLine) : OpR X (compareOp .LtE) (rData X.K okLt fun d e => !PySem.W.dataLt e d) := by
  intro pq s σ H x y v u Q I rx ry h
  obtain ⟨d, e, hd, he, sd, se, d1, d2, ⟨a1, a2⟩, q⟩ := h
  obtain ⟨la, r1⟩ := Dp.reads I d x v hd rx
  obtain ⟨lb, r2⟩ := Dp.reads I e y u he ry
  exact PySem.W.le_data r1 r2 a1 a2 (by have := Nat.min_le_left d.depth e.depth; omega) ⟨.bl _, H, I, rfl, q⟩
theorem op_geP (hu : X.A.units + 64 < cLine) : OpR X (compareOp .GtE) (rData X.K okLt fun d e => !PySem.W.dataLt d e) := by
  intro pq s σ H x y v u Q I rx ry h
  obtain ⟨d, e, hd, he, sd, se, d1, d2, ⟨a1, a2⟩, q⟩ := h
  obtain ⟨la, r1⟩ := Dp.reads I d x v hd rx
  obtain ⟨lb, r2⟩ := Dp.reads I e y u he ry
  exact PySem.W.ge_data r1 r2 a1 a2 (by have := Nat.min_le_left d.depth e.depth; omega) ⟨.bl _, H, I, rfl, q⟩
def rInP (K : PySem.W.Frag) (neg : Bool) : R2 := fun x y H Q => ∃ d ds, Dp K H x d ∧ (Dp K H y (.list ds) ∨ Dp K H y (.tuple ds)) ∧ d.plain = true ∧ PyData.plainAll ds = true ∧ d.depth ≤ 30 ∧ PyData.depthAll ds ≤ 30 ∧ Q (.bl (Bool.xor neg (ds.any fun z => PyData.eqv z d))) H
theorem op_inP (hu : X.A.units + 64 < cLine) : OpR X (compareOp .In) (rInP X.K false) := by
  intro pq s σ H x y v u Q I rx ry h
  obtain ⟨d, ds, hd, he, sd, se, d1, d2, q⟩ := h
  rw [Bool.false_xor] at q
  obtain ⟨la, r1⟩ := Dp.reads I d x v hd rx
  have hm : X.A.units + 1 + min (PyData.depthAll ds) d.depth < cLine := by have := Nat.min_le_left (PyData.depthAll ds) d.depth; omega
  rcases he with he | he
  · obtain ⟨lb, r2⟩ := Dp.reads I _ y u he ry
    exact SeqAt.in_list_data r2 r1 se sd hm ⟨.bl _, H, I, rfl, q⟩
  · obtain ⟨lb, r2⟩ := Dp.reads I _ y u he ry
    exact SeqAt.in_tuple_data r2 r1 se sd hm ⟨.bl _, H, I, rfl, q⟩
theorem op_notInP (hu : X.A.units + 64 < cLine) : OpR X (compareOp .NotIn) (rInP X.K true) := by
  intro pq s σ H x y v u Q I rx ry h
  obtain ⟨d, ds, hd, he, sd, se, d1, d2, q⟩ := h
  rw [Bool.true_xor] at q
  obtain ⟨la, r1⟩ := Dp.reads I d x v hd rx
  have hm : X.A.units + 1 + min (PyData.depthAll ds) d.depth < cLine := by have := Nat.min_le_left (PyData.depthAll ds) d.depth; omega
  rcases he with he | he
  · obtain ⟨lb, r2⟩ := Dp.reads I _ y u he ry
    exact SeqAt.notIn_list_data r2 r1 se sd hm ⟨.bl _, H, I, rfl, q⟩
  · obtain ⟨lb, r2⟩ := Dp.reads I _ y u he ry
    exact SeqAt.notIn_tuple_data r2 r1 se sd hm ⟨.bl _, H, I, rfl, q⟩
/-- k in d, d a dict -/
def rInDc (neg : Bool) : R2 := fun x y H Q => ∃ a o, y = .ref a ∧ DGet H a x o ∧ Q (.bl (Bool.xor neg o.isSome)) H
theorem op_inDc (hu : X.A.units + 1 < cLine) : OpR X (compareOp .In) (rInDc false) := by
  intro pq s σ H x y v u Q I rx ry h
  obtain ⟨a, o, rfl, gd, q⟩ := h
  rw [Bool.false_xor] at q
  cases ry
  exact d_in hu I gd rx fun s3 I3 => ⟨.bl o.isSome, H, I3, rfl, q⟩
theorem op_notInDc (hu : X.A.units + 1 < cLine) : OpR X (compareOp .NotIn) (rInDc true) := by
  intro pq s σ H x y v u Q I rx ry h
  obtain ⟨a, o, rfl, gd, q⟩ := h
  rw [Bool.true_xor] at q
  cases ry
  exact d_notIn hu I gd rx fun s3 I3 => ⟨.bl (!o.isSome), H, I3, rfl, q⟩
end
end RE
set_option maxHeartbeats 2000000
namespace RE
open PySem PySem.Spec PyProof.Rows L2
section
variable {g : G} {ρ : Rh} {σ : L2.St} {st : S} {H : Hp} {Q : VK} {d : D}
/-- what is wanted behind a new list, a new tuple -/
theorem fresh_lst {xs : List V} {ds : List D} (s : Sim g ρ σ H st) (r : RpA g (Vol ρ st) H xs ds) (k : ∀ ρ' H' v, Ext ρ st H ρ' st H' → Sim g ρ' σ H' st → Rp g (Vol ρ' st) H' v (.lst ds) → Q v H') : ∀ p, H p = none → Q (.ref p) (upd H p (.lst xs)) := fun p hp =>
  k ρ _ _ (Ext.new s hp) (s.new hp) (Rp.lst' upd_same (s.nvol hp) (r.go (Ext.new s hp)))
theorem fresh_tup {xs : List V} {ds : List D} (s : Sim g ρ σ H st) (r : RpA g (Vol ρ st) H xs ds) (k : ∀ ρ' H' v, Ext ρ st H ρ' st H' → Sim g ρ' σ H' st → Rp g (Vol ρ' st) H' v (.tup ds) → Q v H') : ∀ p, H p = none → Q (.ref p) (upd H p (.tup xs)) := fun p hp =>
  k ρ _ _ (Ext.new s hp) (s.new hp) (Rp.tup' upd_same (s.nvol hp) (r.go (Ext.new s hp)))
end
def cmpD (ok : PyData → PyData → Bool) (f : PyData → PyData → Bool) (a b : D) : Option D := match toP 20 a, toP 20 b with
  | some p, some q => if ok p q = true then some (.bl (f p q)) else none
  | _, _ => none
theorem ROp.data {g : G} {okP : PyData → PyData → Prop} {ok f : PyData → PyData → Bool} (h : ∀ p q, ok p q = true → okP p q) : ROp g (rData g.K okP f) (cmpD ok f) := by
  intro ρ σ st H x y dx dy d Q e s rx ry k
  unfold cmpD at e
  split at e
  · rename_i p q e1 e2
    split at e
    · rename_i ho
      obtain ⟨a1, a2, a3⟩ := toP_ok 20 dx p x e1 rx
      obtain ⟨b1, b2, b3⟩ := toP_ok 20 dy q y e2 ry
      exact ⟨p, q, a1, b1, a2, b2, by omega, by omega, h p q ho, k ρ H _ Ext.refl s (by rw [← Option.some.inj e]; exact .bl _)⟩
    · cases e
  · cases e
def anyOk (_ _ : PyData) : Bool := true
def ltOk (p q : PyData) : Bool := PySem.W.alike p q && (match p with | .none => false | _ => true)
theorem ltOk_ok (p q : PyData) (h : ltOk p q = true) : okLt p q := by
  unfold ltOk at h
  obtain ⟨h1, h2⟩ := Bool.and_eq_true_iff.mp h
  exact ⟨h1, fun e => by rw [e] at h2; cases h2⟩
def eqD : D → D → Option D := cmpD anyOk PyData.eqv
def neD : D → D → Option D := cmpD anyOk fun p q => !PyData.eqv p q
/-- ints quickly, else data -/
def ordD (fi : Int → Int → Bool) (f : PyData → PyData → Bool) (a b : D) : Option D := match a, b with
  | .int i, .int j => some (.bl (fi i j))
  | _, _ => cmpD ltOk f a b
def ltD : D → D → Option D := ordD (fun i j => decide (i < j)) PySem.W.dataLt
def leD : D → D → Option D := ordD (fun i j => decide (i ≤ j)) fun p q => !PySem.W.dataLt q p
def gtD : D → D → Option D := ordD (fun i j => decide (j < i)) fun p q => PySem.W.dataLt q p
def geD : D → D → Option D := ordD (fun i j => decide (j ≤ i)) fun p q => !PySem.W.dataLt p q
theorem ROp.ord {g : G} {fi : Int → Int → Bool} {f : PyData → PyData → Bool} : ROp g (fun x y H Q => rI0 (fun i j => .bl (fi i j)) x y H Q ∨ rData g.K okLt f x y H Q) (ordD fi f) := by
  intro ρ σ st H x y dx dy d Q e s rx ry k
  unfold ordD at e
  split at e
  · rename_i i j
    exact .inl ⟨i, j, rx.inv_int, ry.inv_int, k ρ H _ Ext.refl s (by rw [← Option.some.inj e]; exact .bl _)⟩
  · exact .inr (ROp.data ltOk_ok ρ σ st H x y dx dy d Q e s rx ry k)
section
variable {X : Cx} {g : G} {ER : EK} {pos : Pos} {a b : Expr} {ma mb : M}
theorem rop_eq : ROp g (rData g.K (fun _ _ => True) PyData.eqv) eqD := ROp.data fun _ _ _ => trivial
theorem rop_ne : ROp g (rData g.K (fun _ _ => True) fun d e => !PyData.eqv d e) neD := ROp.data fun _ _ _ => trivial
/-- is None, is not None -/
def nonD : D → Bool
  | .non => true
  | _ => false
def isND (neg : Bool) (a b : D) : Option D := match b with
  | .non => some (.bl (Bool.xor neg (nonD a)))
  | _ => none
theorem Rp.non_iff {A : Addr → Prop} {H : Hp} {v : V} {d : D} (r : Rp g A H v d) : decide (v = .non) = nonD d := by
  cases r <;> simp [nonD]
theorem rop_isN : ROp g (fun x y H Q => y = .non ∧ Q (.bl (decide (x = .non))) H) (isND false) := by
  intro ρ σ st H x y dx dy d Q e s rx ry k
  unfold isND at e
  split at e
  · refine ⟨ry.inv_non, k ρ H _ Ext.refl s ?_⟩
    rw [← Option.some.inj e, rx.non_iff, Bool.false_xor]
    exact .bl _
  · cases e
theorem rop_notN : ROp g (fun x y H Q => y = .non ∧ Q (.bl (!decide (x = .non))) H) (isND true) := by
  intro ρ σ st H x y dx dy d Q e s rx ry k
  unfold isND at e
  split at e
  · refine ⟨ry.inv_non, k ρ H _ Ext.refl s ?_⟩
    rw [← Option.some.inj e, rx.non_iff, Bool.true_xor]
    exact .bl _
  · cases e
end
def keyD : D → Option Key
  | .int i => some (.inl i)
  | .str s => some (.inr s)
  | _ => none
def keysD : D → Option (List Key)
  | .tup ds => mapO keyD ds
  | _ => none
def valD {κ α : Type} [DecidableEq κ] : List (κ × α) → κ → Option α
  | [], _ => none
  | (x, v) :: r, k => if x = k then some v else valD r k
theorem keyD_ok {g : G} {A : Addr → Prop} {H : Hp} {v : V} {d : D} {k : Key} (r : Rp g A H v d) (e : keyD d = some k) : v = kV k := by
  cases r with
  | int i => cases Option.some.inj e; rfl
  | str s => cases Option.some.inj e; rfl
  | _ => cases e
theorem keysD_all {g : G} {A : Addr → Prop} {H : Hp} : ∀ {ds : List D} {vs : List V} {ks : List Key}, RpA g A H vs ds → mapO keyD ds = some ks → vs = ks.map kV
  | [], vs, ks, r, e => by
    cases Option.some.inj e
    exact r.cases_nil
  | d :: ds, vs, ks, r, e => by
    obtain ⟨x, xs, rfl, r1, r2⟩ := r.cases_cons
    obtain ⟨y, ys, e1, e2, rfl⟩ := mapO_cons e
    rw [keyD_ok r1 e1, keysD_all r2 e2]
    rfl
theorem keysD_ok {g : G} {A : Addr → Prop} {H : Hp} {v : V} {d : D} {ks : List Key} (r : Rp g A H v d) (e : keysD d = some ks) : ∃ b, v = .ref b ∧ H b = some (.tup (ks.map kV)) := by
  cases d with
  | tup ds =>
    obtain ⟨b, xs, rfl, hb, _, rs⟩ := r.inv_tup
    exact ⟨b, rfl, by rw [hb, keysD_all rs e]⟩
  | _ => cases e
theorem valD_ok {κ : Type} [DecidableEq κ] {g : G} {A : Addr → Prop} {H : Hp} (k : κ) : ∀ {ds : List (κ × D)} {xs : List (κ × V)}, xs.map (·.1) = ds.map (·.1) → RpA g A H (xs.map (·.2)) (ds.map (·.2)) →
    (valD ds k = none ∧ valV xs k = none) ∨ ∃ d v, valD ds k = some d ∧ valV xs k = some v ∧ Rp g A H v d
  | [], [], _, _ => .inl ⟨rfl, rfl⟩
  | [], x :: xs, e, _ => by simp at e
  | d :: ds, [], e, _ => by simp at e
  | (kd, d) :: ds, (kx, x) :: xs, e, r => by
    simp only [List.cons.injEq, List.map_cons] at e
    obtain ⟨e1, e2⟩ := e
    have e1 : kx = kd := e1
    subst e1
    have r' := RpA.uncons r
    by_cases h : kx = k
    · exact .inr ⟨d, x, by simp [valD, h], valV_pos (p := (kx, x)) h, r'.1⟩
    · have e3 : valD ((kx, d) :: ds) k = valD ds k := by simp [valD, h]
      rw [e3, valV_neg (p := (kx, x)) h]
      exact valD_ok k e2 r'.2
theorem keys_of {κ : Type} {xs : List (κ × V)} {ds : List (κ × D)} (hl : xs.length = ds.length) (h : ∀ (i : Nat) x d, xs[i]? = some x → ds[i]? = some d → x.1 = d.1) : xs.map (·.1) = ds.map (·.1) := by
  apply List.ext_getElem?
  intro i
  rw [List.getElem?_map]
  rw [List.getElem?_map]
  by_cases hi : i < xs.length
  · have h1 : xs[i]? = some xs[i] := List.getElem?_eq_getElem hi
    have h2 : ds[i]? = some (ds[i]'(by omega)) := List.getElem?_eq_getElem _
    rw [h1, h2]
    exact congrArg some (h i _ _ h1 h2)
  · rw [List.getElem?_eq_none (by omega), List.getElem?_eq_none (by omega)]
    rfl
theorem vals_of {κ : Type} {g : G} {A : Addr → Prop} {H : Hp} {xs : List (κ × V)} {ds : List (κ × D)} (hl : xs.length = ds.length) (h : ∀ (i : Nat) x d, xs[i]? = some x → ds[i]? = some d → Rp g A H x.2 d.2) : RpA g A H (xs.map (·.2)) (ds.map (·.2)) := by
  refine ⟨by simp [hl], fun i x d hx hd => ?_⟩
  rw [List.getElem?_map] at hx hd
  obtain ⟨y, hy, rfl⟩ := Option.map_eq_some_iff.mp hx
  obtain ⟨z, hz, rfl⟩ := Option.map_eq_some_iff.mp hd
  exact h i y z hy hz
theorem Rp.inv_dK {g : G} {A : Addr → Prop} {H : Hp} {v : V} {ds : List (Key × D)} (r : Rp g A H v (.dK ds)) : ∃ a xs, v = .ref a ∧ Rd H a (.dK xs) ∧ ¬ A a ∧ xs.map (·.1) = ds.map (·.1) ∧ RpA g A H (xs.map (·.2)) (ds.map (·.2)) := by
  cases r with
  | dK h n hl hk q => exact ⟨_, _, rfl, h, n, keys_of hl hk, vals_of hl q⟩
theorem Rp.inv_dT {g : G} {A : Addr → Prop} {H : Hp} {v : V} {ds : List (List Key × D)} (r : Rp g A H v (.dT ds)) : ∃ a xs, v = .ref a ∧ Rd H a (.dT xs) ∧ ¬ A a ∧ xs.map (·.1) = ds.map (·.1) ∧ RpA g A H (xs.map (·.2)) (ds.map (·.2)) := by
  cases r with
  | dT h n hl hk q => exact ⟨_, _, rfl, h, n, keys_of hl hk, vals_of hl q⟩
/-- what a dict holds under d -/
def getD (c d : D) : Option (Option D) := match c with
  | .dK kvs => match keyD d with
    | some k => some (valD kvs k)
    | none => none
  | .dT kvs => match keysD d with
    | some k => some (valD kvs k)
    | none => none
  | _ => none
theorem getD_ok {g : G} {A : Addr → Prop} {H : Hp} {vc v : V} {c d : D} {o : Option D} (rc : Rp g A H vc c) (r : Rp g A H v d) (e : getD c d = some o) : ∃ a ov, vc = .ref a ∧ DGet H a v ov ∧ ((o = none ∧ ov = none) ∨ ∃ x y, o = some x ∧ ov = some y ∧ Rp g A H y x) := by
  unfold getD at e
  cases c with
  | dK kvs =>
    obtain ⟨a, xs, rfl, ha, _, ek, rv⟩ := rc.inv_dK
    cases e1 : keyD d with
    | none => simp only [e1] at e; cases e
    | some k =>
      simp only [e1] at e
      cases Option.some.inj e
      have ev := keyD_ok r e1
      subst ev
      refine ⟨a, valV xs k, rfl, .inl ⟨xs, k, ha, rfl, rfl⟩, ?_⟩
      rcases valD_ok k ek rv with ⟨h1, h2⟩ | ⟨x, y, h1, h2, h3⟩
      · exact .inl ⟨h1, h2⟩
      · exact .inr ⟨x, y, h1, h2, h3⟩
  | dT kvs =>
    obtain ⟨a, xs, rfl, ha, _, ek, rv⟩ := rc.inv_dT
    cases e1 : keysD d with
    | none => simp only [e1] at e; cases e
    | some k =>
      simp only [e1] at e
      cases Option.some.inj e
      obtain ⟨b, rfl, hb⟩ := keysD_ok r e1
      refine ⟨a, valV xs k, rfl, .inr ⟨xs, k, b, ha, rfl, hb, rfl⟩, ?_⟩
      rcases valD_ok k ek rv with ⟨h1, h2⟩ | ⟨x, y, h1, h2, h3⟩
      · exact .inl ⟨h1, h2⟩
      · exact .inr ⟨x, y, h1, h2, h3⟩
  | _ => cases e
def memD (a : D) (ds : List D) : Option Bool := match toP 20 a, mapO (toP 20) ds with
  | some p, some ps => some (ps.any fun z => PyData.eqv z p)
  | _, _ => none
def inD (neg : Bool) (a b : D) : Option D := match seqD b with
  | some ds => match memD a ds with
    | some k => some (.bl (Bool.xor neg k))
    | none => none
  | none => match getD b a with
    | some o => some (.bl (Bool.xor neg o.isSome))
    | none => none
theorem toP_all {g : G} {A : Addr → Prop} {H : Hp} {n : Nat} : ∀ {ds : List D} {ps : List PyData} {vs : List V}, mapO (toP n) ds = some ps → RpA g A H vs ds → DpAll g.K H vs ps ∧ PyData.plainAll ps = true ∧ PyData.depthAll ps ≤ n
  | [], ps, vs, h, r => by
    cases (Option.some.inj h)
    rw [r.cases_nil]
    exact ⟨.nil, rfl, Nat.zero_le _⟩
  | d :: ds, ps, vs, h, r => by
    obtain ⟨x, xs, rfl, r1, r2⟩ := r.cases_cons
    obtain ⟨y, ys, e1, e2, rfl⟩ := mapO_cons h
    obtain ⟨a1, a2, a3⟩ := toP_ok n d y x e1 r1
    obtain ⟨b1, b2, b3⟩ := toP_all e2 r2
    exact ⟨.cons a1 b1, by simp only [PyData.plainAll, a2, b2]; rfl, by simp only [PyData.depthAll]; omega⟩
theorem rop_in {g : G} (neg : Bool) : ROp g (fun x y H Q => rInP g.K neg x y H Q ∨ rInDc neg x y H Q) (inD neg) := by
  intro ρ σ st H x y dx dy d Q e s rx ry k
  unfold inD at e
  cases e1 : seqD dy with
  | some ds =>
    simp only [e1] at e
    obtain ⟨a, ys, rfl, hy, rs⟩ := ry.seq e1
    unfold memD at e
    cases e2 : toP 20 dx with
    | none => simp only [e2] at e; cases e
    | some p =>
      cases e3 : mapO (toP 20) ds with
      | none => simp only [e2, e3] at e; cases e
      | some ps =>
        simp only [e2, e3] at e
        obtain ⟨a1, a2, a3⟩ := toP_ok 20 dx p x e2 rx
        obtain ⟨b1, b2, b3⟩ := toP_all e3 rs
        refine .inl ⟨p, ps, a1, ?_, a2, b2, by omega, by omega, k ρ H _ Ext.refl s (by rw [← Option.some.inj e]; exact .bl _)⟩
        rcases hy with hy | hy
        · exact .inl (.lst hy b1)
        · exact .inr (.tup hy b1)
  | none =>
    simp only [e1] at e
    cases e2 : getD dy dx with
    | none => simp only [e2] at e; cases e
    | some o =>
      simp only [e2] at e
      obtain ⟨a, ov, rfl, gd, h⟩ := getD_ok ry rx e2
      refine .inr ⟨a, ov, rfl, gd, k ρ H _ Ext.refl s ?_⟩
      have eo : ov.isSome = o.isSome := by
        rcases h with ⟨h1, h2⟩ | ⟨_, _, h1, h2, _⟩ <;> rw [h1, h2] <;> rfl
      rw [← Option.some.inj e, eo]
      exact .bl _
end RE
set_option maxHeartbeats 2000000
namespace RE
open PySem PySem.Spec PyProof.Rows L2
abbrev lim : Nat := 100000
theorem lim_ok {n : Nat} (h : n ≤ lim) : n ≤ sizeLine := Nat.le_trans h (by rw [sizeLine_eq]; decide)
def addD (a b : D) : Option D := match a, b with
  | .int i, .int j => some (.int (i + j))
  | .lst ds, .lst es => if ds.length + es.length ≤ lim then some (.lst (ds ++ es)) else none
  | .str s, .str t => if s.length + t.length ≤ lim then some (.str (s ++ t)) else none
  | .tup ds, .tup es => if ds.length + es.length ≤ lim then some (.tup (ds ++ es)) else none
  | _, _ => none
def rAddU (K : PySem.W.Frag) : R2 := fun x y H Q => rI0 (fun i j => .int (i + j)) x y H Q ∨ (rCat x y H Q ∨ ((∃ i j, x = .str i ∧ y = .str j ∧ i.length + j.length ≤ sizeLine ∧ Q (.str (i ++ j)) H) ∨ rCatA K x y H Q))
theorem op_addU {X : Cx} : OpR X (binaryOp .Add) (rAddU X.K) := OpR.or op_add (OpR.or op_cat (OpR.or op_add_str op_catA))
theorem nil_of {xs : List V} {ds : List D} (h : xs.length = ds.length) : xs = [] ↔ ds = [] := by
  cases xs <;> cases ds <;> simp_all
theorem rop_add {g : G} : ROp g (rAddU g.K) addD := by
  intro ρ σ st H x y dx dy d Q e s rx ry k
  unfold addD at e
  split at e
  · rename_i i j
    exact .inl ⟨i, j, rx.inv_int, ry.inv_int, k ρ H _ Ext.refl s (by rw [← Option.some.inj e]; exact .int _)⟩
  · rename_i ds es
    split at e
    · rename_i hz
      cases Option.some.inj e
      obtain ⟨a, xs, rfl, ha, _, ra⟩ := rx.inv_lst
      obtain ⟨b, ys, rfl, hb, _, rb⟩ := ry.inv_lst
      exact .inr (.inl ⟨a, b, xs, ys, rfl, rfl, ha, hb, lim_ok (by rw [ra.1, rb.1]; exact hz), fresh_lst s (ra.append rb) k⟩)
    · cases e
  · rename_i s1 s2
    split at e
    · rename_i hz
      exact .inr (.inr (.inl ⟨s1, s2, rx.inv_str, ry.inv_str, lim_ok hz, k ρ H _ Ext.refl s (by rw [← Option.some.inj e]; exact .str _)⟩))
    · cases e
  · rename_i ds es
    split at e
    · rename_i hz
      cases Option.some.inj e
      obtain ⟨a, xs, rfl, ha, na, ra⟩ := rx.inv_tup
      obtain ⟨b, ys, rfl, hb, nb, rb⟩ := ry.inv_tup
      refine .inr (.inr (.inr ⟨a, b, xs, ys, rfl, rfl, SqT.of ha, SqT.of hb, lim_ok (by rw [ra.1, rb.1]; exact hz), fun h => ?_, fun _ h => ?_, fun _ _ => fresh_tup s (ra.append rb) k⟩))
      · rw [(nil_of ra.1).mp h] at k
        exact k ρ H _ Ext.refl s (Rp.tup' hb nb rb)
      · rw [(nil_of rb.1).mp h, List.append_nil] at k
        exact k ρ H _ Ext.refl s (Rp.tup' ha na ra)
    · cases e
  · cases e
def subD (a b : D) : Option D := match a, b with
  | .int i, .int j => some (.int (i - j))
  | _, _ => none
theorem rop_sub {g : G} : ROp g (rI0 fun i j => .int (i - j)) subD := by
  intro ρ σ st H x y dx dy d Q e s rx ry k
  unfold subD at e
  split at e
  · rename_i i j
    exact ⟨i, j, rx.inv_int, ry.inv_int, k ρ H _ Ext.refl s (by rw [← Option.some.inj e]; exact .int _)⟩
  · cases e
def smallI (i : Int) : Bool := decide (-18446744073709551616 < i) && decide (i < 18446744073709551616)
theorem smallI_ok {i : Int} (h : smallI i = true) : -(2 ^ 64) < i ∧ i < 2 ^ 64 := by
  unfold smallI at h
  obtain ⟨h1, h2⟩ := Bool.and_eq_true_iff.mp h
  exact ⟨by have := of_decide_eq_true h1; omega, by have := of_decide_eq_true h2; omega⟩
def mulD (a b : D) : Option D := match a, b with
  | .int i, .int j => if smallI j = true then some (.int (i * j)) else none
  | .lst ds, .int k => if 0 ≤ k ∧ k ≤ 1000 ∧ ds.length ≤ 100 then some (.lst (List.replicate k.toNat ds).flatten) else none
  | .tup ds, .int k => if 2 ≤ k ∧ k ≤ 1000 ∧ ds.length ≤ 100 ∧ ds.isEmpty = false then some (.tup (List.replicate k.toNat ds).flatten) else none
  | _, _ => none
def rMulU (K : PySem.W.Frag) : R2 := fun x y H Q => rI CMul (fun i j => .int (i * j)) x y H Q ∨ (rRep x y H Q ∨ rRepT K x y H Q)
theorem op_mulU {X : Cx} : OpR X (binaryOp .Mult) (rMulU X.K) := OpR.or op_mul (OpR.or op_rep op_repT)
theorem RpA.rep {g : G} {A : Addr → Prop} {H : Hp} {xs : List V} {ds : List D} (r : RpA g A H xs ds) : ∀ n : Nat, RpA g A H (List.replicate n xs).flatten (List.replicate n ds).flatten
  | 0 => RpA.nil
  | n + 1 => by
    rw [List.replicate_succ, List.flatten_cons, List.replicate_succ, List.flatten_cons]
    exact r.append (r.rep n)
theorem rop_mul {g : G} : ROp g (rMulU g.K) mulD := by
  intro ρ σ st H x y dx dy d Q e s rx ry k
  unfold mulD at e
  split at e
  · rename_i i j
    split at e
    · rename_i hz
      exact .inl ⟨i, j, rx.inv_int, ry.inv_int, .inr (smallI_ok hz), k ρ H _ Ext.refl s (by rw [← Option.some.inj e]; exact .int _)⟩
    · cases e
  · rename_i ds j
    split at e
    · rename_i hz
      obtain ⟨h1, h2, h3⟩ := hz
      cases Option.some.inj e
      obtain ⟨a, xs, rfl, ha, _, ra⟩ := rx.inv_lst
      refine .inr (.inl ⟨a, j, xs, rfl, ry.inv_int, ha, by omega, by omega, ?_, fresh_lst s (ra.rep _) k⟩)
      rw [ra.1]
      have q : ds.length * j.toNat ≤ 100 * 1000 := Nat.mul_le_mul h3 (by omega)
      exact lim_ok (by omega)
    · cases e
  · rename_i ds j
    split at e
    · rename_i hz
      obtain ⟨h1, h2, h3, h4⟩ := hz
      cases Option.some.inj e
      obtain ⟨a, xs, rfl, ha, _, ra⟩ := rx.inv_tup
      refine .inr (.inr ⟨a, j, xs, rfl, ry.inv_int, SqT.of ha, fun z => ?_, h1, h2, by rw [ra.1]; omega, fresh_tup s (ra.rep _) k⟩)
      rw [(nil_of ra.1).mp z] at h4
      cases h4
    · cases e
  · cases e
def modD (a b : D) : Option D := match a, b with
  | .int i, .int j => if 0 < j then some (.int (i % j)) else none
  | _, _ => none
theorem rop_mod {g : G} : ROp g (rI (fun _ j => 0 < j) fun i j => .int (i % j)) modD := by
  intro ρ σ st H x y dx dy d Q e s rx ry k
  unfold modD at e
  split at e
  · rename_i i j
    split at e
    · rename_i hz
      exact ⟨i, j, rx.inv_int, ry.inv_int, hz, k ρ H _ Ext.refl s (by rw [← Option.some.inj e]; exact .int _)⟩
    · cases e
  · cases e
def divD (a b : D) : Option D := match a, b with
  | .int i, .int j => if 0 < j ∧ j < 1073741824 then some (.int (i / j)) else none
  | _, _ => none
theorem rop_div {g : G} : ROp g (rI CDiv fun i j => .int (i / j)) divD := by
  intro ρ σ st H x y dx dy d Q e s rx ry k
  unfold divD at e
  split at e
  · rename_i i j
    split at e
    · rename_i hz
      exact ⟨i, j, rx.inv_int, ry.inv_int, hz, k ρ H _ Ext.refl s (by rw [← Option.some.inj e]; exact .int _)⟩
    · cases e
  · cases e
def atD (ds : List D) (i : Int) : Option D := match ixN ds.length i with
  | some j => ds[j]?
  | none => none
theorem atD_ok {g : G} {A : Addr → Prop} {H : Hp} {xs : List V} {ds : List D} {i : Int} {d : D} (r : RpA g A H xs ds) (e : atD ds i = some d) : ∃ x, atI xs i = some x ∧ Rp g A H x d := by
  unfold atD at e
  unfold atI
  rw [r.1]
  split at e
  · rename_i j ej
    obtain ⟨x, hx, rx⟩ := r.get e
    exact ⟨x, by rw [ej]; exact hx, rx⟩
  · cases e
def ixI (ds : List D) : D → Option D
  | .int i => atD ds i
  | _ => none
def ixG (a b : D) : Option D := match getD a b with
  | some (some d) => some d
  | _ => none
def ixD (a b : D) : Option D := match seqD a with
  | some ds => ixI ds b
  | none => ixG a b
theorem ixD_seq {a b : D} {ds : List D} (e : seqD a = some ds) : ixD a b = ixI ds b := by unfold ixD; rw [e]
theorem ixD_dict {a b : D} (e : seqD a = none) : ixD a b = ixG a b := by unfold ixD; rw [e]
theorem PE.or {X : Cx} {e : Expr} {t u : TE} (p : PE X e t) (q : PE X e u) : PE X e (fun σ H Q => t σ H Q ∨ u σ H Q) := ⟨fun pq s σ H Q I h => h.elim (p.run pq s σ H Q I) (q.run pq s σ H Q I)⟩
theorem PT.or {X : Cx} {e : Expr} {t u : TT} (p : PT X e t) (q : PT X e u) : PT X e (fun σ H Q => t σ H Q ∨ u σ H Q) := ⟨fun pq s σ H Q I h => h.elim (p.run pq s σ H Q I) (q.run pq s σ H Q I)⟩
section
variable {X : Cx} {g : G} {ER : EK} {pos : Pos} {a b : Expr} {ma mb : M}
theorem pe_mIx (hk : X.K = g.K) (hu : X.A.units + 1 < cLine) (ha : PE X a (tM g ER ma)) (hb : PE X b (tM g ER mb)) (hs : PlainIx b) (hn : NoSl b) : PE X (.Subscript a b pos) (tM g ER (mBin ixD ma mb)) := by
  refine PEi (PE.or (pe_ix ix_seq ha hb hs) (pe_dget hu ha hb hn)) fun σ H Q h => ?_
  obtain ⟨ρ, st, s, h⟩ := h
  have hq := h
  unfold mBin at hq
  by_cases hd : ∃ da st1 db st2, ma st = .ok da st1 ∧ mb st1 = .ok db st2 ∧ seqD da = none
  · obtain ⟨da, st1, db, st2, e1, e2, e3⟩ := hd
    refine .inr ⟨ρ, st, s, ?_⟩
    rw [e1] at hq ⊢
    intro ρ1 H1 x1 s1 x rx
    refine ⟨ρ1, st1, s1, ?_⟩
    have hq := OutC.later hq x1
    have hq : OutC ER ρ1 st1 H1 (bindO (mb st1) fun b st2 => optO (ixD da b) st2) _ := hq
    rw [e2] at hq ⊢
    intro ρ2 H2 x2 s2 y ry
    have hq := OutC.later hq x2
    have hq : OutC ER ρ2 st2 H2 (optO (ixD da db) st2) _ := hq
    have hq : OutC ER ρ2 st2 H2 (optO (ixD da db) st2) _ := hq
    rw [ixD_dict e3] at hq
    unfold ixG at hq
    cases eg : getD da db with
    | none => rw [eg] at hq; exact hq.elim
    | some o =>
      rw [eg] at hq
      obtain ⟨c, ov, rfl, gd, hh⟩ := getD_ok (rx.go x2) ry eg
      rcases hh with ⟨z, _⟩ | ⟨d2, v2, z1, z2, rr⟩
      · subst z
        exact hq.elim
      · subst z1
        rw [z2] at gd
        exact ⟨c, v2, rfl, gd, hq ρ2 H2 Ext.refl s2 v2 rr⟩
  · refine .inl ⟨ρ, st, s, ?_⟩
    cases e1 : ma st with
    | no => rw [e1] at hq; exact hq
    | er c vs st' => rw [e1] at hq; exact hq
    | ok da st1 =>
      rw [e1] at hq
      intro ρ1 H1 x1 s1 x rx
      refine ⟨ρ1, st1, s1, ?_⟩
      have hq := OutC.later hq x1
      have hq : OutC ER ρ1 st1 H1 (bindO (mb st1) fun b st2 => optO (ixD da b) st2) _ := hq
      cases e2 : mb st1 with
      | no => rw [e2] at hq; exact hq
      | er c vs st' => rw [e2] at hq; exact hq
      | ok db st2 =>
        rw [e2] at hq
        intro ρ2 H2 x2 s2 y ry
        have hq := OutC.later hq x2
        have hq : OutC ER ρ2 st2 H2 (optO (ixD da db) st2) _ := hq
        cases e3 : seqD da with
        | none => exact absurd ⟨da, st1, db, st2, e1, e2, e3⟩ hd
        | some ds =>
          have hq : OutC ER ρ2 st2 H2 (optO (ixD da db) st2) _ := hq
          rw [ixD_seq e3] at hq
          cases db with
          | int i =>
            have hq : OutC ER ρ2 st2 H2 (optO (atD ds i) st2) _ := hq
            cases ed : atD ds i with
            | none => rw [ed] at hq; exact hq.elim
            | some d =>
              rw [ed] at hq
              obtain ⟨p, xs, rfl, hp, rs⟩ := (rx.go x2).seq e3
              obtain ⟨v, ev, rv⟩ := atD_ok rs ed
              rw [hk]
              rcases hp with hp | hp
              · exact .inl ⟨p, xs, i, v, rfl, ry.inv_int, hp, ev, hq ρ2 H2 Ext.refl s2 v rv⟩
              · exact .inr (.inl ⟨p, xs, i, v, rfl, ry.inv_int, hp, ev, hq ρ2 H2 Ext.refl s2 v rv⟩)
          | _ => exact hq.elim
end
end RE
set_option maxHeartbeats 2000000
namespace RE
open PySem PySem.Spec PyProof.Rows L2
def mFun (f : List D → Option D) (ms : MA) : M := fun st => bindO (ms st) fun ds st1 => optO (f ds) st1
def ROpN (g : G) (r : List V → Hp → VK → Prop) (f : List D → Option D) : Prop := ∀ (ρ : Rh) (σ : L2.St) (st : S) (H : Hp) (xs : List V) (ds : List D) (d : D) (Q : VK), f ds = some d → Sim g ρ σ H st → RpA g (Vol ρ st) H xs ds →
  (∀ ρ' H' v, Ext ρ st H ρ' st H' → Sim g ρ' σ H' st → Rp g (Vol ρ' st) H' v d → Q v H') → r xs H Q
section
variable {X : Cx} {g : G} {ER : EK} {pos p : Pos} {x : Str} {e : Expr} {es : List Expr} {ms : MA} {r : List V → Hp → VK → Prop} {f : List D → Option D}
theorem tM_fun (hf : ROpN g r f) {σ : L2.St} {H : Hp} {Q : VK} (h : tM g ER (mFun f ms) σ H Q) : tCB r (tMA g ER ms) σ H Q := by
  obtain ⟨ρ, st, s, h⟩ := h
  refine ⟨ρ, st, s, (OutC.bind h).mono fun ds st1 ρ1 H1 _ h1 s1 xs rs => ?_⟩
  cases ed : f ds with
  | none => rw [ed] at h1; exact h1.elim
  | some d =>
    rw [ed] at h1
    exact hf ρ1 σ st1 H1 xs ds d Q ed s1 rs fun ρ' H' v e' s' r' => h1 ρ' H' e' s' v r'
theorem pe_mCallB {id : String} (hc : CallR X (.builtin id) r) (hf : ROpN g r f) (hg : Gl X x) (hm : X.mg x = none) (hv : bootBuiltins x = some (.builtin id)) (ha : PA X (e :: es) (tMA g ER ms)) (hn : x ≠ "__name__" := by decide) (hdb : (x == ("__debug__" : Str)) = false := by decide)
    (he : starEach (e :: es) X.env = (false, eval e X.env) :: starEach es X.env := by rfl) (hpl : (backTo pos (starEach es X.env)).any (·.1) = false := by rfl) : PE X (.Call (.Name x p) (e :: es) [] pos) (tM g ER (mFun f ms)) :=
  PEi (pe_callB hc hg hm hv ha hn hdb he hpl) fun _ _ _ h => tM_fun hf h
theorem pe_mCallT {T : String} (hc : CallR X (.type T) r) (hf : ROpN g r f) (hg : Gl X x) (hm : X.mg x = none) (hv : bootBuiltins x = some (.type T)) (ha : PA X (e :: es) (tMA g ER ms)) (hn : x ≠ "__name__" := by decide) (hdb : (x == ("__debug__" : Str)) = false := by decide)
    (he : starEach (e :: es) X.env = (false, eval e X.env) :: starEach es X.env := by rfl) (hpl : (backTo pos (starEach es X.env)).any (·.1) = false := by rfl) : PE X (.Call (.Name x p) (e :: es) [] pos) (tM g ER (mFun f ms)) :=
  PEi (pe_callTy hc hg hm hv ha hn hdb he hpl) fun _ _ _ h => tM_fun hf h
end
section
variable {g : G} {A : Addr → Prop} {H : Hp} {vs : List V}
theorem RpA.one {d : D} (r : RpA g A H vs [d]) : ∃ v, vs = [v] ∧ Rp g A H v d := by
  obtain ⟨x, xs, rfl, r1, r2⟩ := r.cases_cons
  rw [r2.cases_nil]
  exact ⟨x, rfl, r1⟩
theorem RpA.two {d e : D} (r : RpA g A H vs [d, e]) : ∃ v u, vs = [v, u] ∧ Rp g A H v d ∧ Rp g A H u e := by
  obtain ⟨x, xs, rfl, r1, r2⟩ := r.cases_cons
  obtain ⟨u, rfl, r3⟩ := r2.one
  exact ⟨x, u, rfl, r1, r3⟩
end
def lenD : List D → Option D
  | [.str s] => if s.length ≤ lim then some (.int s.length) else none
  | [d] => match seqD d with
    | some ds => some (.int ds.length)
    | none => none
  | _ => none
theorem rop_len {g : G} : ROpN g (fun xs H Q => ∃ x n, xs = [x] ∧ LenV g.K x H n ∧ Q (.int (n : Nat)) H) lenD := by
  intro ρ σ st H xs ds d Q e s rs k
  unfold lenD at e
  split at e
  · rename_i z
    obtain ⟨v, rfl, r⟩ := rs.one
    obtain rfl := r.inv_str
    split at e
    · rename_i hz
      exact ⟨_, _, rfl, ⟨lim_ok hz, rfl⟩, k ρ H _ Ext.refl s (by rw [← Option.some.inj e]; exact .int _)⟩
    · cases e
  · rename_i d' _
    obtain ⟨v, rfl, r⟩ := rs.one
    cases e1 : seqD d' with
    | none => simp only [e1] at e; cases e
    | some es =>
      simp only [e1] at e
      obtain ⟨a, ys, rfl, ha, ra⟩ := r.seq e1
      refine ⟨_, ys.length, rfl, ?_, k ρ H _ Ext.refl s (by rw [← Option.some.inj e, ra.1]; exact .int _)⟩
      rcases ha with ha | ha
      · exact .inl ⟨_, ha, rfl⟩
      · exact .inr ⟨_, ha, rfl⟩
  · cases e
def tupleD : List D → Option D
  | [.lst ds] => some (.tup ds)
  | [.tup ds] => some (.tup ds)
  | [.kt ds] => some (.kt ds)
  | _ => none
theorem rop_tuple {g : G} : ROpN g (fun xs H Q => ∃ p ys, xs = [.ref p] ∧ ((SqL g.K H p ys ∧ ∀ l, H l = none → Q (.ref l) (upd H l (.tup ys))) ∨ (SqT g.K H p ys ∧ Q (.ref p) H))) tupleD := by
  intro ρ σ st H xs ds d Q e s rs k
  unfold tupleD at e
  split at e
  · cases Option.some.inj e
    obtain ⟨v, rfl, r⟩ := rs.one
    obtain ⟨a, ys, rfl, ha, _, ra⟩ := r.inv_lst
    exact ⟨a, ys, rfl, .inl ⟨SqL.of ha, fresh_tup s ra k⟩⟩
  · cases Option.some.inj e
    obtain ⟨v, rfl, r⟩ := rs.one
    obtain ⟨a, ys, rfl, ha, na, ra⟩ := r.inv_tup
    exact ⟨a, ys, rfl, .inr ⟨SqT.of ha, k ρ H _ Ext.refl s r⟩⟩
  · cases Option.some.inj e
    obtain ⟨v, rfl, r⟩ := rs.one
    obtain ⟨a, ys, rfl, ha, ra⟩ := r.inv_kt
    exact ⟨a, ys, rfl, .inr ⟨ha.sq, k ρ H _ Ext.refl s r⟩⟩
  · cases e
def intD : List D → Option D
  | [.int i] => some (.int i)
  | [.bl b] => some (.int (if b then 1 else 0))
  | _ => none
theorem rop_int {g : G} : ROpN g (fun xs H Q => (∃ i, xs = [.int i] ∧ Q (.int i) H) ∨ ∃ k, xs = [.bl k] ∧ Q (.int (if k then 1 else 0)) H) intD := by
  intro ρ σ st H xs ds d Q e s rs k
  unfold intD at e
  split at e
  · cases Option.some.inj e
    obtain ⟨v, rfl, r⟩ := rs.one
    obtain rfl := r.inv_int
    exact .inl ⟨_, rfl, k ρ H _ Ext.refl s (.int _)⟩
  · cases Option.some.inj e
    obtain ⟨v, rfl, r⟩ := rs.one
    obtain rfl := r.inv_bl
    exact .inr ⟨_, rfl, k ρ H _ Ext.refl s (.int _)⟩
  · cases e
def absD : List D → Option D
  | [.int i] => some (.int (if i < 0 then -i else i))
  | _ => none
theorem rop_abs {g : G} : ROpN g (fun xs H Q => ∃ i, xs = [.int i] ∧ Q (.int (if i < 0 then -i else i)) H) absD := by
  intro ρ σ st H xs ds d Q e s rs k
  unfold absD at e
  split at e
  · cases Option.some.inj e
    obtain ⟨v, rfl, r⟩ := rs.one
    obtain rfl := r.inv_int
    exact ⟨_, rfl, k ρ H _ Ext.refl s (.int _)⟩
  · cases e
def blD : D → Option Bool
  | .bl b => some b
  | _ => none
theorem bls_ok {g : G} {A : Addr → Prop} {H : Hp} : ∀ {ds : List D} {vs : List V} {bs : List Bool}, mapO blD ds = some bs → RpA g A H vs ds → vs = bs.map V.bl
  | [], vs, bs, e, r => by
    cases Option.some.inj e
    exact r.cases_nil
  | d :: ds, vs, bs, e, r => by
    obtain ⟨x, xs, rfl, r1, r2⟩ := r.cases_cons
    obtain ⟨y, ys, e1, e2, rfl⟩ := mapO_cons e
    rw [bls_ok e2 r2]
    cases d with
    | bl b => cases Option.some.inj e1; rw [r1.inv_bl]; rfl
    | _ => cases e1
def allD : List D → Option D
  | [.lst ds] => match mapO blD ds with
    | some bs => some (.bl (bs.all id))
    | none => none
  | _ => none
theorem rop_all {g : G} : ROpN g (rAll g.K) allD := by
  intro ρ σ st H xs ds d Q e s rs k
  unfold allD at e
  split at e
  · rename_i es
    obtain ⟨v, rfl, r⟩ := rs.one
    obtain ⟨a, ys, rfl, ha, _, ra⟩ := r.inv_lst
    cases e1 : mapO blD es with
    | none => simp only [e1] at e; cases e
    | some bs =>
      simp only [e1] at e
      cases Option.some.inj e
      rw [bls_ok e1 ra] at ha
      exact ⟨a, bs, rfl, SqL.of ha, k ρ H _ Ext.refl s (.bl _)⟩
  · cases e
inductive Ty where
  | list | tuple | int | bool | str
def Ty.nm : Ty → String
  | .list => "list"
  | .tuple => "tuple"
  | .int => "int"
  | .bool => "bool"
  | .str => "str"
/-- the name of a datum's class, as Ty; None and dicts apart -/
def isaD : Ty → D → Option Bool
  | .list, .lst _ => some true
  | .tuple, .tup _ => some true
  | .tuple, .kt _ => some true
  | .int, .int _ => some true
  | .int, .bl _ => some true
  | .bool, .bl _ => some true
  | .str, .str _ => some true
  | _, .fn _ => none
  | _, .ks _ => none
  | _, .dK _ => none
  | _, .dT _ => none
  | _, .ob _ _ => none
  | _, _ => some false
def clsD : D → Option String
  | .non => some "NoneType"
  | .bl _ => some "bool"
  | .int _ => some "int"
  | .str _ => some "str"
  | .lst _ => some "list"
  | .tup _ => some "tuple"
  | .kt _ => some "tuple"
  | .dK _ => none
  | .dT _ => none
  | .fn _ => none
  | .ks _ => none
  | .ob _ _ => none
theorem clsD_ok {g : G} {A : Addr → Prop} {H : Hp} {v : V} {d : D} {c : String} (r : Rp g A H v d) (e : clsD d = some c) : TyX g.K H v (.type c) := by
  cases r with
  | non => cases Option.some.inj e; exact .base .non
  | bl b => cases Option.some.inj e; exact .base (.bl b)
  | int i => cases Option.some.inj e; exact .base (.int i)
  | str z => cases Option.some.inj e; exact .base (.str z)
  | lst h _ _ _ => cases Option.some.inj e; exact .base (.lst h)
  | tup h _ _ _ => cases Option.some.inj e; exact .base (.tup h)
  | kls _ _ _ _ => cases e
  | klw _ _ _ => cases e
  | ktup h _ _ =>
    cases Option.some.inj e
    rcases h with ⟨o, _, _, ho, hc, _⟩ | ⟨o, ho, _⟩
    · exact .kTuple ho hc
    · exact .fTuple ho
  | dK _ _ _ _ _ => cases e
  | dT _ _ _ _ _ => cases e
  | fn i => cases e
  | ob _ _ _ _ _ => cases e
theorem isaD_kit {t : Ty} {d : D} {b : Bool} (e : isaD t d = some b) : ∃ c, clsD d = some c ∧ kitB c t.nm = some b := by
  cases d <;> cases t <;> first
    | (cases e; done)
    | (cases Option.some.inj e; exact ⟨_, rfl, by decide +kernel⟩)
end RE
set_option maxHeartbeats 2000000
namespace RE
open PySem PySem.Spec PyProof.Rows L2
def mIsa (t : Ty) (m : M) : M := fun st => bindO (m st) fun d st1 => match isaD t d with
  | some b => .ok (.bl b) st1
  | none => .no
def isa2 (t u : Ty) (d : D) : Option Bool := match isaD t d with
  | some true => some true
  | some false => isaD u d
  | none => none
def mIsa2 (t u : Ty) (m : M) : M := fun st => bindO (m st) fun d st1 => match isa2 t u d with
  | some b => .ok (.bl b) st1
  | none => .no
section
variable {X : Cx} {g : G} {ER : EK} {pos p : Pos} {a b : Expr} {m : M}
theorem pe_mIsa (t : Ty) (hk : X.K = g.K) (hg : Gl X "isinstance") (hm : X.mg "isinstance" = none) (ha : PE X a (tM g ER m)) (hb : PE X b (tC (.ty t.nm)))
    (he : starEach [a, b] X.env = (false, eval a X.env) :: starEach [b] X.env := by rfl) (he2 : starEach [b] X.env = (false, eval b X.env) :: starEach [] X.env := by rfl) (hpl : (backTo pos (starEach [b] X.env)).any (·.1) = false := by rfl) :
    PE X (.Call (.Name "isinstance" p) [a, b] [] pos) (tM g ER (mIsa t m)) := by
  refine PEi (pe_callB call_isi hg hm (by decide +kernel) (pa_cons ha (pa_cons hb pa_nil he2) he) (he := he) (hpl := hpl)) fun σ H Q h => ?_
  obtain ⟨ρ, st, s, h⟩ := h
  refine ⟨ρ, st, s, (OutC.bind h).mono fun d st1 ρ1 H1 _ h1 s1 x rx => ?_⟩
  cases e : isaD t d with
  | none => simp only [e] at h1; exact h1.elim
  | some k =>
    simp only [e] at h1
    obtain ⟨c, e1, e2⟩ := isaD_kit e
    rw [hk]
    exact ⟨x, _, _, _, k, rfl, .ty _, clsD_ok rx e1, kit_ty e2, h1 ρ1 H1 Ext.refl s1 _ (.bl _)⟩
theorem isa2_kit {K : PySem.W.Frag} {t u : Ty} {d : D} {k : Bool} (e : isa2 t u d = some k) : ∃ c, clsD d = some c ∧ PySem.W.kitAny K (.type c) [.type t.nm, .type u.nm] = some k := by
  unfold isa2 at e
  cases e1 : isaD t d with
  | none => simp only [e1] at e; cases e
  | some k1 =>
    simp only [e1] at e
    obtain ⟨c, c1, c2⟩ := isaD_kit e1
    cases k1 with
    | true =>
      cases Option.some.inj e
      exact ⟨c, c1, kitAny_cons (kit_ty c2) (fun z => nomatch z) fun _ => rfl⟩
    | false =>
      obtain ⟨c', d1, d2⟩ := isaD_kit (show isaD u d = some k from e)
      rw [c1] at d1
      cases Option.some.inj d1
      refine ⟨c, c1, kitAny_cons (kit_ty c2) (fun _ => ?_) fun z => nomatch z⟩
      refine kitAny_cons (kit_ty d2) (fun z => ?_) fun z => z
      rw [z]
      rfl
theorem pe_mIsa2 {e1 e2 : Expr} {x1 : _} {p2 : Pos} (t u : Ty) (hk : X.K = g.K) (hg : Gl X "isinstance") (hm : X.mg "isinstance" = none) (ha : PE X a (tM g ER m)) (h1 : PE X e1 (tC (.ty t.nm))) (h2 : PE X e2 (tC (.ty u.nm)))
    (he : starEach [a, .Tuple [e1, e2] x1 p2] X.env = (false, eval a X.env) :: starEach [.Tuple [e1, e2] x1 p2] X.env := by rfl) (hpl : (backTo pos (starEach [.Tuple [e1, e2] x1 p2] X.env)).any (·.1) = false := by rfl)
    (he1 : starEach [e1, e2] X.env = (false, eval e1 X.env) :: starEach [e2] X.env := by rfl) (he2 : starEach [e2] X.env = (false, eval e2 X.env) :: starEach [] X.env := by rfl) :
    PE X (.Call (.Name "isinstance" p) [a, .Tuple [e1, e2] x1 p2] [] pos) (tM g ER (mIsa2 t u m)) := by
  refine PEi (pe_callB call_isiT hg hm (by decide +kernel) (pa_cons ha (pa_cons (pe_tup (pa_cons h1 (pa_cons h2 pa_nil he2) he1)) pa_nil) he) (he := he) (hpl := hpl)) fun σ H Q h => ?_
  obtain ⟨ρ, st, s, h⟩ := h
  refine ⟨ρ, st, s, (OutC.bind h).mono fun d st1 ρ1 H1 _ h1 s1 x rx => ?_⟩
  refine ⟨by show 2 ≤ sizeLine; rw [sizeLine_eq]; decide, fun q hq => ?_⟩
  cases e : isa2 t u d with
  | none => simp only [e] at h1; exact h1.elim
  | some k =>
    simp only [e] at h1
    obtain ⟨c, c1, c2⟩ := isa2_kit (K := g.K) e
    rw [hk]
    exact ⟨x, q, [.ty t.nm, .ty u.nm], _, _, k, rfl, upd_same, .cons (.ty _) (.cons (.ty _) .nil), clsD_ok (rx.go (Ext.new s1 hq)) c1, c2, h1 ρ1 _ (Ext.new s1 hq) (s1.new hq) _ (.bl _)⟩
end
end RE
set_option maxHeartbeats 2000000
namespace RE
open PySem PySem.Spec PyProof.Rows L2
/-- data in order: each with what it reads as -/
def leP (a b : D × PyData) : Bool := !PySem.W.dataLt b.2 a.2
abbrev r3 (s t : V × D × PyData) : Bool := leP s.2 t.2
end RE
set_option maxHeartbeats 2000000
namespace RE
open PySem PySem.Spec PyProof.Rows L2
inductive SO where
  | nx (st : S) | rt (d : D) (st : S) | bk (st : S) | ct (st : S) | er (c : Nat) (vs : List D) (st : S) | no
abbrev MS := S → SO
def bindS {α : Type} (o : O α) (f : α → S → SO) : SO := match o with
  | .ok a st => f a st
  | .er c vs st => .er c vs st
  | .no => .no
def seqS (o : SO) (f : MS) : SO := match o with
  | .nx st => f st
  | o => o
def OutS (g : G) (ER : EK) (ρ : Rh) (st : S) (H : Hp) (o : SO) (E : Ends) : Prop := match o with
  | .nx st' => ∀ ρ' σ' H', Ext ρ st H ρ' st' H' → Sim g ρ' σ' H' st' → E.nx σ' H'
  | .rt d st' => ∀ ρ' σ' H' v, Ext ρ st H ρ' st' H' → Sim g ρ' σ' H' st' → Rp g (Vol ρ' st') H' v d → E.rt v H'
  | .bk st' => ∀ ρ' σ' H', Ext ρ st H ρ' st' H' → Sim g ρ' σ' H' st' → E.bk σ' H'
  | .ct st' => ∀ ρ' σ' H', Ext ρ st H ρ' st' H' → Sim g ρ' σ' H' st' → E.ct σ' H'
  | .er c vs st' => ∀ ρ' H', Ext ρ st H ρ' st' H' → ER c vs ρ' st' H'
  | .no => False
def tMS (g : G) (ER : EK) (ms : MS) : TS := fun E σ H => ∃ ρ st, Sim g ρ σ H st ∧ OutS g ER ρ st H (ms st) E
theorem PSi {X : Cx} {e : Stmt} {t t' : TS} (p : PS X e t) (h : ∀ E σ H, t' E σ H → t E σ H) : PS X e t' := ⟨fun pq s σ H E I q => p.run pq s σ H E I (h _ _ _ q)⟩
theorem PSsi {X : Cx} {e : List Stmt} {t t' : TS} (p : PSs X e t) (h : ∀ E σ H, t' E σ H → t E σ H) : PSs X e t' := ⟨fun pq s σ H E I q => p.run pq s σ H E I (h _ _ _ q)⟩
section
variable {g : G} {ER : EK} {ρ ρ1 : Rh} {st st1 : S} {H H1 : Hp} {E : Ends}
theorem OutS.later {o : SO} (h : OutS g ER ρ st H o E) (e : Ext ρ st H ρ1 st1 H1) : OutS g ER ρ1 st1 H1 o E := by
  cases o with
  | nx st' => exact fun ρ' σ' H' e' s' => h ρ' σ' H' (e.trans e') s'
  | rt d st' => exact fun ρ' σ' H' v e' s' r => h ρ' σ' H' v (e.trans e') s' r
  | bk st' => exact fun ρ' σ' H' e' s' => h ρ' σ' H' (e.trans e') s'
  | ct st' => exact fun ρ' σ' H' e' s' => h ρ' σ' H' (e.trans e') s'
  | er c vs st' => exact fun ρ' H' e' => h ρ' H' (e.trans e')
  | no => exact h
theorem OutS.bind {α : Type} {o : O α} {f : α → S → SO} (h : OutS g ER ρ st H (bindS o f) E) : OutC ER ρ st H o fun a st' ρ' H' => OutS g ER ρ' st' H' (f a st') E := by
  cases o with
  | ok a st' => exact fun ρ' H' e => OutS.later h e
  | er c vs st' => exact h
  | no => exact h
theorem OutS.seq {o : SO} {f : MS} (h : OutS g ER ρ st H (seqS o f) E) : OutS g ER ρ st H o { E with nx := fun σ' H' => tMS g ER f E σ' H' } := by
  cases o with
  | nx st' => exact fun ρ' σ' H' e s => ⟨ρ', st', s, OutS.later h e⟩
  | rt d st' => exact h
  | bk st' => exact h
  | ct st' => exact h
  | er c vs st' => exact h
  | no => exact h
end
def S.put (st : S) (i : Nat) (s : Sl) : S := { st with sl := st.sl.set i s }
section
variable {g : G} {ρ : Rh} {σ : L2.St} {st : S} {H : Hp}
theorem Sim.put (s : Sim g ρ σ H st) (i : Nat) {v : V} {sl : Sl} (h : SlOk g (Vol ρ st) ρ H (some v) sl) : Sim g ρ (σ.set i (some v)) H (st.put i sl) where
  toCells := ⟨s.uok, s.clen, s.cell, s.inj, s.out⟩
  len := by show (σ.set i (some v)).length = (st.sl.set i sl).length; rw [List.length_set, List.length_set, s.len]
  slot := fun j sl' v' h1 h2 => by
    have h1 : (st.sl.set i sl)[j]? = some sl' := h1
    rw [List.getElem?_set] at h1 h2
    by_cases e : i = j
    · rw [if_pos e] at h1 h2
      split at h1
      · split at h2
        · cases Option.some.inj h1
          cases Option.some.inj h2
          exact h
        · cases h2
      · cases h1
    · rw [if_neg e] at h1 h2
      exact s.slot j sl' v' h1 h2
theorem Ext.put (i : Nat) (sl : Sl) : Ext ρ st H ρ (st.put i sl) H := ⟨fun _ _ h n => ⟨h, n⟩, fun _ _ h => h, rfl, fun _ _ => rfl, fun _ h => .inl h, fun _ h => h⟩
end
def mAsg (i : Nat) (m : M) : MS := fun st => bindS (m st) fun d st1 => .nx (st1.put i (.d d))
def mRet (m : M) : MS := fun st => bindS (m st) fun d st1 => .rt d st1
def mDrop (m : M) : MS := fun st => bindS (m st) fun _ st1 => .nx st1
def mIf (t : MT) (a b : MS) : MS := fun st => bindS (t st) fun k st1 => if k = true then a st1 else b st1
def mSeq (a b : MS) : MS := fun st => seqS (a st) b
def mSkip : MS := fun st => .nx st
section
variable {X : Cx} {g : G} {ER : EK} {pos pos' : Pos}
theorem ps_mAsg {i : Nat} {x : Str} {e : Expr} {m : M} (hN : X.N.Nodup) (hi : X.N[i]? = some x) (hx : Loc X.env.scope x) (he : PE X e (tM g ER m)) (hs : swapsWith e (some (.Name x pos')) pos.line X.env = pure false := by rfl) (hf : X.fn x = true ∨ X.env.scope.names.lookup x = some .local := by first | exact .inl rfl | exact .inr rfl) :
    PS X (.Assign [.Name x pos'] e pos) (tMS g ER (mAsg i m)) := by
  refine PSi (ps_set hN hi hx he hs hf) fun E σ H h => ?_
  obtain ⟨ρ, st, s, h⟩ := h
  refine ⟨ρ, st, s, (OutS.bind h).mono fun d st1 ρ1 H1 _ h1 s1 v rv => ?_⟩
  exact h1 ρ1 _ H1 (Ext.put i _) (s1.put i ⟨v, rfl, rv⟩)
theorem ps_mRet {e : Expr} {m : M} (he : PE X e (tM g ER m)) : PS X (.Return (some e) pos) (tMS g ER (mRet m)) := by
  refine PSi (ps_ret he) fun E σ H h => ?_
  obtain ⟨ρ, st, s, h⟩ := h
  refine ⟨ρ, st, s, (OutS.bind h).mono fun d st1 ρ1 H1 _ h1 s1 v rv => ?_⟩
  exact h1 ρ1 σ H1 v Ext.refl s1 rv
theorem ps_mDrop {e : Expr} {m : M} (he : PE X e (tM g ER m)) (hs : swapsWith e none pos.line X.env = pure false := by rfl) : PS X (.Expr e pos) (tMS g ER (mDrop m)) := by
  refine PSi (ps_expr he hs) fun E σ H h => ?_
  obtain ⟨ρ, st, s, h⟩ := h
  refine ⟨ρ, st, s, (OutS.bind h).mono fun d st1 ρ1 H1 _ h1 s1 v rv => ?_⟩
  exact h1 ρ1 σ H1 Ext.refl s1
theorem ps_mIf {c : Expr} {a b : List Stmt} {t : MT} {ma mb : MS} (hc : PT X c (tMT g ER t)) (ha : PSs X a (tMS g ER ma)) (hb : PSs X b (tMS g ER mb)) : PS X (.If c a b pos) (tMS g ER (mIf t ma mb)) := by
  refine PSi (ps_if hc ha hb) fun E σ H h => ?_
  obtain ⟨ρ, st, s, h⟩ := h
  refine ⟨ρ, st, s, (OutS.bind h).mono fun k st1 ρ1 H1 _ h1 s1 => ?_⟩
  cases k with
  | true => exact ⟨ρ1, st1, s1, h1⟩
  | false => exact ⟨ρ1, st1, s1, h1⟩
theorem pss_mCons {a : Stmt} {r : List Stmt} {ma mr : MS} (ha : PS X a (tMS g ER ma)) (hr : PSs X r (tMS g ER mr)) : PSs X (a :: r) (tMS g ER (mSeq ma mr)) := by
  refine PSsi (pss_cons ha hr) fun E σ H h => ?_
  obtain ⟨ρ, st, s, h⟩ := h
  exact ⟨ρ, st, s, OutS.seq h⟩
theorem pss_mOne {a : Stmt} {ma : MS} (ha : PS X a (tMS g ER ma)) : PSs X [a] (tMS g ER ma) := pss_one ha
theorem pss_mNil : PSs X [] (tMS g ER mSkip) := by
  refine PSsi pss_nil fun E σ H h => ?_
  obtain ⟨ρ, st, s, h⟩ := h
  exact h ρ σ H Ext.refl s
end
end RE
set_option maxHeartbeats 2000000
namespace RE
open PySem PySem.Spec PyProof.Rows L2
/-- an error of the class c with the fields vs: what is told of it behind it -/
def ErrIs (g : G) (A : Addr → Prop) (H : Hp) (c : Nat) (vs : List D) (cls : Value) (d : Option Addr) : Prop :=
  cls = .ref (g.C c) ∧ ((g.fld c = [] ∧ vs = [] ∧ d = none) ∨ ∃ dd nm x v, d = some dd ∧ H dd = some (.xd [(nm, x)]) ∧ g.fld c = [nm] ∧ vs = [v] ∧ Rp g A H x v ∧ ¬ A dd)
def erOf (g : G) (E : XK) : EK := fun c vs ρ' st' H' => ∀ cls d, Cells g ρ' H' st' → ErrIs g (Vol ρ' st') H' c vs cls d → E cls d H'
def erNo : EK := fun _ _ _ _ _ => False
def OutF (g : G) (ρ : Rh) (st : S) (H : Hp) (o : SO) (Q : VK) (E : XK) : Prop := match o with
  | .rt d st' => ∀ ρ' H' v, Ext ρ st H ρ' st' H' → Cells g ρ' H' st' → Rp g (Vol ρ' st') H' v d → Q v H'
  | .nx st' => ∀ ρ' H', Ext ρ st H ρ' st' H' → Cells g ρ' H' st' → Q .non H'
  | .er c vs st' => ∀ ρ' H', Ext ρ st H ρ' st' H' → erOf g E c vs ρ' st' H'
  | _ => False
def S.start (as : List Sl) (n : Nat) (ce : List Ce) : S := ⟨as ++ List.replicate (n - as.length) .no, ce⟩
def spF (g : G) (np n : Nat) (ms : MS) : Sp := fun vs H Q E => vs.length = np ∧ ∃ (ρ : Rh) (as : List Sl) (ce : List Ce), as.length = np ∧ Sim g ρ (vs.map some) H ⟨as, ce⟩ ∧ OutF g ρ ⟨as, ce⟩ H (ms (S.start as n ce)) Q E
theorem Vol.ce {ρ : Rh} {st st0 : S} (h : st.ce = st0.ce) (a : Addr) : Vol ρ st a ↔ Vol ρ st0 a := by unfold Vol; rw [h]
theorem Ext.ce {ρ ρ' : Rh} {st st0 st' : S} {H H' : Hp} (e : Ext ρ st H ρ' st' H') (h : st.ce = st0.ce) : Ext ρ st0 H ρ' st' H' :=
  ⟨fun a o h1 n => e.keep a o h1 fun v => n ((Vol.ce h a).mp v), e.pre, e.same, e.un, fun a v => (e.more a v).imp (Vol.ce h a).mp id, e.mono⟩
section
variable {P : Program} {w : World} {base : Heap} {K : PySem.W.Frag} {mg : Str → Option Value}
theorem sim_start {g : G} {ρ : Rh} {H : Hp} {vs : List V} {N : List Str} {as : List Sl} {ce : List Ce} (s : Sim g ρ (vs.map some) H ⟨as, ce⟩) (hn : vs.length ≤ N.length) : Sim g ρ (start N vs) H (S.start as N.length ce) where
  toCells := ⟨s.uok, s.clen, s.cell, s.inj, s.out⟩
  len := by
    have h := s.len
    rw [List.length_map] at h
    have h : vs.length = as.length := h
    show (vs.map some ++ List.replicate (N.length - vs.length) none).length = (as ++ List.replicate (N.length - as.length) Sl.no).length
    simp [h]
  slot := fun i sl v h1 h2 => by
    have h : vs.length = as.length := by have h := s.len; rw [List.length_map] at h; exact h
    have h1 : (as ++ List.replicate (N.length - as.length) Sl.no)[i]? = some sl := h1
    have h2 : (vs.map some ++ List.replicate (N.length - vs.length) none)[i]? = some v := h2
    by_cases hi : i < as.length
    · rw [List.getElem?_append_left hi] at h1
      rw [List.getElem?_append_left (by rw [List.length_map, h]; exact hi)] at h2
      exact s.slot i sl v h1 h2
    · rw [List.getElem?_append_right (by omega), List.getElem?_replicate] at h1
      split at h1
      · cases Option.some.inj h1
        trivial
      · cases h1
/-- a def, by its body's reading -/
theorem okF {g : G} {x qual : Str} {st : Stmt} {f : Addr} {fd : FuncData} {N ps : List Str} {k np n : Nat} {ms : MS} (F : Fun K x qual st f fd) (S' : FnScope N ps (defScope st)) (hp : ps.length = np) (hN : N.length = n) (hpn : np ≤ n)
    (hbody : ∀ (cdv : Value) (A : Around) (outer : List Env) (s : Shared) (H : Hp) (E : XK), Room k (A.deeper (envOfC qual (defScope st) s.heap.objs.size f cdv)) →
      PSs (cxOf (L2.CX P w) P w K mg base N qual (defScope st) f cdv A outer s H E) (defBody st) (tMS g (erOf g E) ms)) : FnOk P w K mg base (L2.CX P w) (k + 1) f fd ps (spF g np n ms) := by
  refine F.okX S' (fun vs H Q E h => by rw [hp]; exact h.1) fun cdv A outer s H vs Q E hr h => ⟨_, hbody cdv A outer s H E hr, ?_⟩
  obtain ⟨hl, ρ, as, ce, ha, sm, ho⟩ := h
  subst hN
  refine ⟨ρ, S.start as N.length ce, sim_start sm (by omega), ?_⟩
  cases e : ms (S.start as N.length ce) with
  | nx st' => rw [e] at ho; exact fun ρ' σ' H' x s' => ho ρ' H' (x.ce rfl) s'.toCells
  | rt d st' => rw [e] at ho; exact fun ρ' σ' H' v x s' r => ho ρ' H' v (x.ce rfl) s'.toCells r
  | bk st' => rw [e] at ho; exact ho.elim
  | ct st' => rw [e] at ho; exact ho.elim
  | er c vs' st' => rw [e] at ho; exact fun ρ' H' x => ho ρ' H' (x.ce rfl)
  | no => rw [e] at ho; exact ho.elim
end
/-- what a def gives for such data -/
def runD (ms : MS) (n : Nat) (ds : List D) (st : S) : O D := match ms (S.start (ds.map .d) n []) with
  | .rt d _ => .ok d st
  | .nx _ => .ok .non st
  | .er c vs _ => .er c vs st
  | _ => .no
def mCall (ms : MS) (n : Nat) (dfl : List D) (ma : MA) : M := fun st => bindO (ma st) fun ds st1 => runD ms n (ds ++ dfl) st1
/-- what the callers' own cells are to the callee -/
theorem sim_args {g : G} {ρ : Rh} {σ : L2.St} {H : Hp} {st : S} {vs : List V} {ds : List D} (s : Sim g ρ σ H st) (r : RpA g (Vol ρ st) H vs ds) : Sim g ⟨[], Vol ρ st⟩ (vs.map some) H ⟨ds.map .d, []⟩ where
  uok := fun a h => s.volT h
  clen := rfl
  cell := fun k c a h => by simp at h
  inj := fun j k c c' a h => by simp at h
  out := fun k c a h => by simp at h
  len := by show (vs.map some).length = (ds.map Sl.d).length; rw [List.length_map, List.length_map, r.1]
  slot := fun i sl v h1 h2 => by
    have h1 : (ds.map Sl.d)[i]? = some sl := h1
    rw [List.getElem?_map] at h1 h2
    obtain ⟨d, hd, rfl⟩ := Option.map_eq_some_iff.mp h1
    obtain ⟨u, hu, rfl⟩ := Option.map_eq_some_iff.mp h2
    refine ⟨u, rfl, (r.2 i u d hu hd).ext fun a o h n => ⟨h, fun v => n ?_⟩⟩
    rcases v with v | ⟨k, c, hc, _⟩
    · exact v
    · simp at hc
theorem CeOk.at {g : G} {ad : List Addr} {A A' : Addr → Prop} {H H' : Hp} {a : Addr} {c : Ce} (h : CeOk g A ad H a c) (ha : H' a = H a) (k : ∀ a o, H a = some o → ¬ A a → H' a = some o ∧ ¬ A' a) : CeOk g A' ad H' a c := h.ext ha k
/-- behind a callee that was told not to speak of our cells, our state stands as it stood -/
theorem back_call {g : G} {ρ ρ' : Rh} {σ : L2.St} {H H' : Hp} {st st0 st' : S} (s : Sim g ρ σ H st) (h0 : st0.ce = []) (e : Ext ⟨[], Vol ρ st⟩ st0 H ρ' st' H') : Ext ρ st H ρ st H' ∧ Sim g ρ σ H' st ∧ ∀ a, Vol ρ st a → Vol ρ' st' a := by
  have nv : ∀ a, ¬ Vol ρ st a → ¬ Vol ⟨[], Vol ρ st⟩ st0 a := fun a n v => by
    rcases v with v | ⟨k, c, hc, _⟩
    · exact n v
    · rw [h0] at hc; simp at hc
  have k : ∀ a o, H a = some o → ¬ Vol ρ st a → H' a = some o ∧ ¬ Vol ρ st a := fun a o h n => ⟨(e.keep a o h (nv a n)).1, n⟩
  have un : ∀ a, Vol ρ st a → H' a = H a := fun a v => e.un a v
  refine ⟨⟨k, fun _ _ h => h, rfl, fun a h => un a (.inl h), fun a h => .inl h, e.mono⟩, ?_, fun a v => ?_⟩
  · refine ⟨⟨fun a h => ?_, s.clen, fun j c a h1 h2 => ?_, s.inj, s.out⟩, s.len, fun i sl v h1 h2 => ?_⟩
    · obtain ⟨o, ho, nt⟩ := s.uok a h
      exact ⟨o, by rw [un a (.inl h)]; exact ho, nt⟩
    · by_cases hc : c.alive = true
      · exact (s.cell j c a h1 h2).ext (un a (.inr ⟨j, c, h1, hc, h2⟩)) k
      · cases c <;> first | trivial | exact absurd rfl hc
    · have q := s.slot i sl v h1 h2
      cases sl with
      | no => trivial
      | d x => obtain ⟨u, eu, r⟩ := q; exact ⟨u, eu, r.ext k⟩
      | rf j => exact q
  · left
    rw [e.same]
    exact v
theorem Rp.back {g : G} {A A' : Addr → Prop} {H : Hp} {v : V} {d : D} (r : Rp g A' H v d) (h : ∀ a, A a → A' a) : Rp g A H v d := r.ext fun a o e n => ⟨e, fun z => n (h a z)⟩
section
variable {X : Cx} {g : G} {ER : EK} {CX : CXT} {k n np : Nat} {f : Addr} {fd : FuncData} {ps : List Str} {ms : MS} {dfl : List D} {dvs : List V} {ds : List Value} {E : XK} {x : Str} {p pos : Pos} {e : Expr} {es : List Expr} {ma : MA}
theorem call_read (hdf : ∀ A H, RpA g A H dvs dfl) (hnp : ∀ vs : List V, (vs.length = np) ↔ (vs.length = ps.length)) (hE : ∀ c vs ρ st H cls d, ER c vs ρ st H → Cells g ρ H st → ErrIs g (Vol ρ st) H c vs cls d → E cls d H)
    {ρ : Rh} {σ : L2.St} {st : S} {H : Hp} {vs : List V} {xs : List D} {Q : VK} (s : Sim g ρ σ H st) (r : RpA g (Vol ρ st) H vs xs) (hl : (vs ++ dvs).length = np)
    (h : OutC ER ρ st H (runD ms n (xs ++ dfl) st) fun d st' ρ' H' => Sim g ρ' σ H' st' → ∀ v, Rp g (Vol ρ' st') H' v d → Q v H') : spF g np n ms (vs ++ dvs) H Q E := by
  have rr := r.append (hdf (Vol ρ st) H)
  refine ⟨hl, ⟨[], Vol ρ st⟩, (xs ++ dfl).map .d, [], by rw [List.length_map, ← rr.1]; exact hl, sim_args s rr, ?_⟩
  unfold runD at h
  cases eo : ms (S.start ((xs ++ dfl).map .d) n []) with
  | nx st' =>
    rw [eo] at h
    intro ρ' H' x c
    obtain ⟨b1, b2, b3⟩ := back_call s rfl x
    exact h ρ H' b1 b2 .non .non
  | rt d st' =>
    rw [eo] at h
    intro ρ' H' v x c r'
    obtain ⟨b1, b2, b3⟩ := back_call s rfl x
    exact h ρ H' b1 b2 v (r'.back b3)
  | bk st' => rw [eo] at h; exact h.elim
  | ct st' => rw [eo] at h; exact h.elim
  | no => rw [eo] at h; exact h.elim
  | er c vs' st' =>
    rw [eo] at h
    intro ρ' H' x cls d cc ei
    obtain ⟨b1, b2, b3⟩ := back_call s rfl x
    refine hE c vs' ρ st H' cls d (h ρ H' b1) b2.toCells ?_
    obtain ⟨q1, q2⟩ := ei
    refine ⟨q1, q2.imp id fun ⟨dd, nm, y, v, z1, z2, z3, z4, z5, z6⟩ => ⟨dd, nm, y, v, z1, z2, z3, z4, z5.back b3, fun q => z6 (b3 _ q)⟩⟩
theorem pe_mCall (F : FnOk X.prog X.w X.K X.mg X.base CX k f fd ps (spF g np n ms)) (hr : Room k X.A) (hg : Gl X x) (hm : X.mg x = some (.ref f)) (hk : PySem.W.keepIn X.K (.ref f) = true) (hb : Binds X.K fd ps ds) (hd : Vals dvs ds) (hx : Passes CX X E)
    (hdf : ∀ A H, RpA g A H dvs dfl) (hE : ∀ c vs ρ st H cls d, ER c vs ρ st H → Cells g ρ H st → ErrIs g (Vol ρ st) H c vs cls d → E cls d H) (ha : PA X (e :: es) (tMA g ER ma)) (hlen : ∀ st xs st', ma st = .ok xs st' → xs.length + dfl.length = np) (hps : ps.length = np) (hdb : (x == ("__debug__" : Str)) = false := by decide) (he : starEach (e :: es) X.env = (false, eval e X.env) :: starEach es X.env := by rfl) (hpl : (backTo pos (starEach es X.env)).any (·.1) = false := by rfl) :
    PE X (.Call (.Name x p) (e :: es) [] pos) (tM g ER (mCall ms n dfl ma)) := by
  refine PEi (pe_call F hr hg hm hk hb hd hx ha hdb he hpl) fun σ H Q h => ?_
  obtain ⟨ρ, st, s, h⟩ := h
  refine ⟨ρ, st, s, ?_⟩
  have hh := OutC.bind h
  cases ea : ma st with
  | no => rw [ea] at hh; exact hh
  | er c vs st' => rw [ea] at hh; exact hh
  | ok xs st1 =>
    rw [ea] at hh
    intro ρ1 H1 x1 s1 vs rs
    refine call_read hdf (fun vs => by rw [hps]) hE s1 rs ?_ (hh ρ1 H1 x1)
    have h1 := hlen st xs st1 ea
    have h2 := (hdf (Vol ρ1 st1) H1).1
    rw [List.length_append, rs.1, h2]
    exact h1
end
end RE
set_option maxHeartbeats 2000000
namespace RE
open PySem PySem.Spec PyProof.Rows L2
abbrev MI := S → O (List D)
/-- J gives, in whatever comes of this state, the items ds one by one -/
def ItOk (g : G) (ρ0 : Rh) (st0 : S) (H0 : Hp) (J : It) (ds : List D) : Prop := ∀ (A : Addr → Prop) (H : Hp), (∀ a o, H0 a = some o → ¬ Vol ρ0 st0 a → H a = some o ∧ ¬ A a) → (∀ a, A a → ∃ o, H a = some o ∧ NT o) → ∀ i : Nat,
  (∀ d, ds[i]? = some d → J.go i H ∧ ∀ x H', J.yld i H x H' → (H' = H ∨ ∃ p o, H p = none ∧ H' = upd H p o) ∧ Rp g A H' x d) ∧ (ds.length ≤ i → J.stop i H)
def tMI (g : G) (ER : EK) (mi : MI) : TI := fun σ H R => ∃ ρ st, Sim g ρ σ H st ∧ OutC ER ρ st H (mi st) fun ds st' ρ' H' => Sim g ρ' σ H' st' → ∀ J, ItOk g ρ' st' H' J ds → R J H'
theorem PIi {X : Cx} {tg e : Expr} {t t' : TI} (p : PI X tg e t) (h : ∀ σ H R, t' σ H R → t σ H R) : PI X tg e t' := ⟨fun pq s σ H R I q => p.run pq s σ H R I (h _ _ _ q)⟩
theorem PI.or {X : Cx} {tg e : Expr} {t u : TI} (p : PI X tg e t) (q : PI X tg e u) : PI X tg e (fun σ H R => t σ H R ∨ u σ H R) := ⟨fun pq s σ H R I h => h.elim (p.run pq s σ H R I) (q.run pq s σ H R I)⟩
section
variable {g : G} {ρ : Rh} {st : S} {H : Hp} {a : Addr} {xs : List V} {ds : List D}
theorem nvolA {A : Addr → Prop} {H : Hp} {p : Addr} (hA : ∀ a, A a → ∃ o, H a = some o ∧ NT o) (hp : H p = none) : ¬ A p := fun v => by
  obtain ⟨o, h, _⟩ := hA p v
  rw [hp] at h; cases h
theorem keepA {A : Addr → Prop} {H : Hp} {p : Addr} {o : HO} (hp : H p = none) : ∀ a u, H a = some u → ¬ A a → upd H p o a = some u ∧ ¬ A a := fun a u h n => ⟨by rw [upd_ne (ne_of_none h hp)]; exact h, n⟩
theorem it_list (h : H a = some (.lst xs)) (n : ¬ Vol ρ st a) (r : RpA g (Vol ρ st) H xs ds) : ItOk g ρ st H (Itl g.K a) ds := fun A H' k hA i => by
  have hs : SqL g.K H' a xs := SqL.of (k a _ h n).1
  refine ⟨fun d hd => ?_, fun hl => ⟨xs, hs, by rw [r.1]; exact hl⟩⟩
  obtain ⟨x, hx, rx⟩ := r.get hd
  refine ⟨⟨xs, x, hs, hx⟩, fun y H'' hy => ⟨.inl hy.1, ?_⟩⟩
  obtain ⟨e1, e2⟩ := hy
  have e3 := e2 xs hs
  rw [hx] at e3
  cases Option.some.inj e3
  rw [e1]
  exact rx.ext k
theorem it_tup (h : (H a = some (.tup xs) ∧ ¬ Vol ρ st a) ∨ KT g.K (Vol ρ st) H a xs) (r : RpA g (Vol ρ st) H xs ds) : ItOk g ρ st H (Itt g.K a) ds := fun A H' k hA i => by
  have hs : SqT g.K H' a xs := by
    rcases h with ⟨h, n⟩ | h
    · exact SqT.of (k a _ h n).1
    · exact (h.ext k).sq
  refine ⟨fun d hd => ?_, fun hl => ⟨xs, hs, by rw [r.1]; exact hl⟩⟩
  obtain ⟨x, hx, rx⟩ := r.get hd
  refine ⟨⟨xs, x, hs, hx⟩, fun y H'' hy => ⟨.inl hy.1, ?_⟩⟩
  obtain ⟨e1, e2⟩ := hy
  have e3 := e2 xs hs
  rw [hx] at e3
  cases Option.some.inj e3
  rw [e1]
  exact rx.ext k
theorem it_range {lo : Int} {n : Nat} : ItOk g ρ st H (Itr lo n) ((List.range n).map fun i => D.int (lo + (i : Nat))) := fun A H' k hA i => by
  refine ⟨fun d hd => ?_, fun hl => by rw [List.length_map, List.length_range] at hl; exact hl⟩
  rw [List.getElem?_map] at hd
  obtain ⟨j, hj, rfl⟩ := Option.map_eq_some_iff.mp hd
  obtain ⟨h1, h2⟩ := List.getElem?_eq_some_iff.mp hj
  rw [List.length_range] at h1
  rw [List.getElem_range] at h2
  subst h2
  exact ⟨h1, fun y H'' hy => ⟨.inl hy.1, by rw [hy.2]; exact .int _⟩⟩
def enumFrom : Nat → List D → List D
  | _, [] => []
  | n, d :: ds => .tup [.int n, d] :: enumFrom (n + 1) ds
theorem enumFrom_len : ∀ (n : Nat) (ds : List D), (enumFrom n ds).length = ds.length
  | _, [] => rfl
  | n, d :: ds => by show (enumFrom (n + 1) ds).length + 1 = ds.length + 1; rw [enumFrom_len]
theorem enumFrom_get : ∀ (ds : List D) (n i : Nat) (d : D), (enumFrom n ds)[i]? = some d → ∃ x, ds[i]? = some x ∧ d = .tup [.int ((n + i : Nat) : Int), x]
  | [], n, i, d, h => by simp [enumFrom] at h
  | x :: ds, n, 0, d, h => ⟨x, rfl, (Option.some.inj h).symm⟩
  | x :: ds, n, i + 1, d, h => by
    obtain ⟨y, h1, h2⟩ := enumFrom_get ds (n + 1) i d h
    refine ⟨y, h1, ?_⟩
    rw [h2]
    have : n + 1 + i = n + (i + 1) := by omega
    rw [this]
theorem it_enum (h : H a = some (.lst xs)) (n : ¬ Vol ρ st a) (r : RpA g (Vol ρ st) H xs ds) : ItOk g ρ st H (Ite g.K a) (enumFrom 0 ds) := fun A H' k hA i => by
  have hs : SqL g.K H' a xs := SqL.of (k a _ h n).1
  refine ⟨fun d hd => ?_, fun hl => ⟨xs, hs, by rw [r.1, ← enumFrom_len 0 ds]; exact hl⟩⟩
  obtain ⟨z, hz, rfl⟩ := enumFrom_get ds 0 i d hd
  obtain ⟨x, hx, rx⟩ := r.get hz
  refine ⟨⟨xs, x, hs, hx⟩, fun y H'' hy => ?_⟩
  obtain ⟨T, x', rfl, hT, rfl, e2⟩ := hy
  have e3 := e2 xs hs
  rw [hx] at e3
  cases Option.some.inj e3
  refine ⟨.inr ⟨T, _, hT, rfl⟩, ?_⟩
  rw [Nat.zero_add]
  exact Rp.tup' upd_same (nvolA hA hT) (RpA.cons (.int _) (RpA.cons ((rx.ext k).ext (keepA hT)) RpA.nil))
def zipD : List D → List D → List D
  | d :: ds, e :: es => .tup [d, e] :: zipD ds es
  | _, _ => []
theorem zipD_get : ∀ (ds es : List D) (i : Nat) (d : D), (zipD ds es)[i]? = some d → ∃ x y, ds[i]? = some x ∧ es[i]? = some y ∧ d = .tup [x, y]
  | [], es, i, d, h => by simp [zipD] at h
  | x :: ds, [], i, d, h => by simp [zipD] at h
  | x :: ds, y :: es, 0, d, h => ⟨x, y, rfl, rfl, (Option.some.inj h).symm⟩
  | x :: ds, y :: es, i + 1, d, h => zipD_get ds es i d h
theorem zipD_len : ∀ (ds es : List D) (i : Nat), (zipD ds es).length ≤ i → ds.length ≤ i ∨ es.length ≤ i
  | [], es, i, _ => .inl (Nat.zero_le _)
  | x :: ds, [], i, _ => .inr (Nat.zero_le _)
  | x :: ds, y :: es, 0, h => by simp [zipD] at h
  | x :: ds, y :: es, i + 1, h => by
    have h' : (zipD ds es).length + 1 ≤ i + 1 := h
    rcases zipD_len ds es i (by omega) with q | q
    · left; rw [List.length_cons]; omega
    · right; rw [List.length_cons]; omega
variable {b : Addr} {ys : List V} {es : List D}
end
/-- what is walked: no list of the written part -/
def seqW : D → Option (List D)
  | .ks _ => none
  | d => seqD d
theorem seqW_ok {d : D} {ds : List D} (e : seqW d = some ds) : seqD d = some ds := by
  cases d <;> first | exact e | cases e
def miSeq (m : M) : MI := fun st => bindO (m st) fun d st1 => optO (seqW d) st1
section
variable {X : Cx} {g : G} {ER : EK} {pos p : Pos} {tg e : Expr} {m : M} {ma : MA}
def isL : D → Bool
  | .lst _ => true
  | _ => false
theorem Rp.seqT {A : Addr → Prop} {H : Hp} {v : V} {d : D} {ds : List D} (r : Rp g A H v d) (e0 : seqW d = some ds) (hl : isL d = false) : ∃ a xs, v = .ref a ∧ ((H a = some (.tup xs) ∧ ¬ A a) ∨ KT g.K A H a xs) ∧ RpA g A H xs ds := by
  have e := seqW_ok e0
  cases r with
  | lst h n hl q => cases hl
  | tup h n hl' q => cases Option.some.inj e; exact ⟨_, _, rfl, .inl ⟨h, n⟩, hl', q⟩
  | ktup h hl' q => cases Option.some.inj e; exact ⟨_, _, rfl, .inr h, hl', q⟩
  | kls _ _ _ _ => cases e0
  | klw _ _ _ => cases e0
  | _ => cases e
theorem pi_mSeq (hk : X.K = g.K) (he : PE X e (tM g ER m)) : PI X tg e (tMI g ER (miSeq m)) := by
  refine PIi (PI.or (pi_list he) (pi_tup he)) fun σ H R h => ?_
  obtain ⟨ρ, st, s, h⟩ := h
  have hb := OutC.bind h
  cases e1 : m st with
  | no => rw [e1] at hb; exact hb.elim
  | er c vs st' => exact .inl ⟨ρ, st, s, by rw [e1] at hb ⊢; exact hb⟩
  | ok d st1 =>
    rw [e1] at hb
    cases e2 : seqW d with
    | none =>
      refine .inl ⟨ρ, st, s, ?_⟩
      rw [e1]
      intro ρ1 H1 x1 s1 v rv
      have q : OutC ER ρ1 st1 H1 (optO (seqW d) st1) _ := hb ρ1 H1 x1
      rw [e2] at q
      exact q.elim
    | some ds =>
      cases hl : isL d with
      | true =>
        refine .inl ⟨ρ, st, s, ?_⟩
        rw [e1]
        intro ρ1 H1 x1 s1 v rv
        have q : OutC ER ρ1 st1 H1 (optO (seqW d) st1) _ := hb ρ1 H1 x1
        rw [e2] at q
        cases d with
        | lst ds' =>
          cases Option.some.inj (seqW_ok e2)
          obtain ⟨a, xs, rfl, ha, na, ra⟩ := rv.inv_lst
          rw [hk]
          exact ⟨a, rfl, ⟨xs, SqL.of ha⟩, q ρ1 H1 Ext.refl s1 _ (it_list ha na ra)⟩
        | _ => cases hl
      | false =>
        refine .inr ⟨ρ, st, s, ?_⟩
        rw [e1]
        intro ρ1 H1 x1 s1 v rv
        have q : OutC ER ρ1 st1 H1 (optO (seqW d) st1) _ := hb ρ1 H1 x1
        rw [e2] at q
        obtain ⟨a, xs, rfl, ha, ra⟩ := rv.seqT e2 hl
        rw [hk]
        refine ⟨a, rfl, ⟨xs, ?_⟩, q ρ1 H1 Ext.refl s1 _ (it_tup ha ra)⟩
        rcases ha with ⟨h, _⟩ | h
        · exact SqT.of h
        · exact h.sq
def miFun (f : List D → Option (List D)) (ma : MA) : MI := fun st => bindO (ma st) fun ds st1 => optO (f ds) st1
def rangeF : List D → Option (List D)
  | [.int j] => if -4611686018427387904 ≤ j ∧ j < 4611686018427387904 then some ((List.range j.toNat).map fun i => D.int (0 + (i : Nat))) else none
  | _ => none
theorem pi_mRange {a : Expr} (hg : Gl X "range") (hm : X.mg "range" = none) (ha : PA X [a] (tMA g ER ma)) (hs : starEach [a] X.env = [(false, eval a X.env)] := by rfl) : PI X tg (.Call (.Name "range" p) [a] [] pos) (tMI g ER (miFun rangeF ma)) := by
  refine PIi (pi_range1 hg hm ha hs) fun σ H R h => ?_
  obtain ⟨ρ, st, s, h⟩ := h
  refine ⟨ρ, st, s, (OutC.bind h).mono fun ds st1 ρ1 H1 _ h1 s1 vs rs => ?_⟩
  cases e1 : rangeF ds with
  | none => rw [e1] at h1; exact h1.elim
  | some es =>
    rw [e1] at h1
    unfold rangeF at e1
    split at e1
    · rename_i j
      split at e1
      · rename_i hz
        cases Option.some.inj e1
        obtain ⟨v, rfl, r⟩ := rs.one
        exact ⟨j, by rw [r.inv_int], by omega, by omega, h1 ρ1 H1 Ext.refl s1 _ it_range⟩
      · cases e1
    · cases e1
def enumF : List D → Option (List D)
  | [.lst ds] => some (enumFrom 0 ds)
  | _ => none
theorem pi_mEnum {a : Expr} {elts : List Expr} {kk : Nat} {tpos : Pos} (hk : X.K = g.K) (hg : Gl X "enumerate") (hm : X.mg "enumerate" = none) (ha : PA X [a] (tMA g ER ma)) (hs : starEach [a] X.env = [(false, eval a X.env)] := by rfl) : PI X (.Tuple elts kk tpos) (.Call (.Name "enumerate" p) [a] [] pos) (tMI g ER (miFun enumF ma)) := by
  refine PIi (pi_enum hg hm ha hs) fun σ H R h => ?_
  obtain ⟨ρ, st, s, h⟩ := h
  refine ⟨ρ, st, s, (OutC.bind h).mono fun ds st1 ρ1 H1 _ h1 s1 vs rs => ?_⟩
  cases e1 : enumF ds with
  | none => rw [e1] at h1; exact h1.elim
  | some es =>
    rw [e1] at h1
    unfold enumF at e1
    split at e1
    · cases Option.some.inj e1
      obtain ⟨v, rfl, r⟩ := rs.one
      obtain ⟨a, xs, rfl, ha, na, ra⟩ := r.inv_lst
      rw [hk]
      exact ⟨a, xs, rfl, SqL.of ha, h1 ρ1 H1 Ext.refl s1 _ (it_enum ha na ra)⟩
    · cases e1
end
end RE
set_option maxHeartbeats 2000000
namespace RE
open PySem PySem.Spec PyProof.Rows L2
abbrev Tg := D → S → Option S
/-- a target: what it stores; is: the slots that it stores -/
def GOk (g : G) (tg : Tg) (t : TG) (is : List Nat) : Prop := ∀ (ρ : Rh) (σ : L2.St) (H : Hp) (st : S) (x : V) (d : D) (st' : S) (Q : L2.St → Hp → Prop), tg d st = some st' → Sim g ρ σ H st → Rp g (Vol ρ st) H x d →
  (∀ σ', Sim g ρ σ' H st' → st'.ce = st.ce → (∀ vs : List Nat, (∀ i ∈ is, i ∈ vs) → wipe σ' vs = wipe σ vs) → Q σ' H) → t x σ H Q
theorem wipe_set {σ : L2.St} {i : Nat} {v : Option V} : ∀ {vs : List Nat}, i ∈ vs → wipe (σ.set i v) vs = wipe σ vs
  | [], h => by simp at h
  | j :: vs, h => by
    unfold wipe
    by_cases e : i = j
    · subst e
      by_cases hm : i ∈ vs
      · rw [wipe_set hm]
      · have q : ∀ (ws : List Nat), i ∉ ws → wipe (σ.set i v) ws = (wipe σ ws).set i v := by
          intro ws
          induction ws with
          | nil => intro _; rfl
          | cons k ws ih =>
            intro hk
            unfold wipe
            rw [ih (fun z => hk (List.mem_cons_of_mem _ z)), List.set_comm _ _ (fun z => hk (by rw [z]; exact List.mem_cons_self))]
        rw [q vs hm, List.set_set]
    · rw [wipe_set (by rcases List.mem_cons.mp h with z | z; exact absurd z e; exact z)]
def tgName (i : Nat) : Tg := fun d st => some (st.put i (.d d))
theorem gok_name {g : G} (i : Nat) : GOk g (tgName i) (gName i) [i] := by
  intro ρ σ H st x d st' Q e s r k
  cases Option.some.inj e
  exact k _ (s.put i ⟨x, rfl, r⟩) rfl fun vs h => wipe_set (h i (by simp))
/-- stores item by item -/
def putsD : List Nat → List D → S → Option S
  | [], [], st => some st
  | i :: is, d :: ds, st => putsD is ds (st.put i (.d d))
  | _, _, _ => none
def gNames : List Nat → TGs
  | [] => gNil
  | i :: is => gCons (gName i) (gNames is)
theorem gok_names {g : G} : ∀ (is : List Nat) (ρ : Rh) (σ : L2.St) (H : Hp) (st : S) (xs : List V) (ds : List D) (st' : S) (Q : L2.St → Hp → Prop), putsD is ds st = some st' → Sim g ρ σ H st → RpA g (Vol ρ st) H xs ds →
    (∀ σ', Sim g ρ σ' H st' → st'.ce = st.ce → (∀ vs : List Nat, (∀ i ∈ is, i ∈ vs) → wipe σ' vs = wipe σ vs) → Q σ' H) → gNames is xs σ H Q
  | [], ρ, σ, H, st, xs, [], st', Q, e, s, r, k => by
    cases Option.some.inj e
    exact ⟨r.cases_nil, k σ s rfl fun _ _ => rfl⟩
  | [], ρ, σ, H, st, xs, d :: ds, st', Q, e, s, r, k => by cases e
  | i :: is, ρ, σ, H, st, xs, [], st', Q, e, s, r, k => by cases e
  | i :: is, ρ, σ, H, st, xs, d :: ds, st', Q, e, s, r, k => by
    obtain ⟨x, ys, rfl, r1, r2⟩ := r.cases_cons
    refine ⟨x, ys, rfl, ?_⟩
    have s1 := s.put i (v := x) (sl := .d d) ⟨x, rfl, r1⟩
    refine gok_names is ρ _ H _ ys ds st' Q e s1 (r2.ext fun a o h n => ⟨h, n⟩) fun σ' s' ce w => k σ' s' ce fun vs h => ?_
    rw [w vs fun j hj => h j (List.mem_cons_of_mem _ hj), wipe_set (h i List.mem_cons_self)]
def tgTup (is : List Nat) : Tg := fun d st => match d with
  | .tup ds => putsD is ds st
  | .kt ds => putsD is ds st
  | _ => none
theorem gok_tup {g : G} (is : List Nat) : GOk g (tgTup is) (gTup g.K is.length (gNames is)) is := by
  intro ρ σ H st x d st' Q e s r k
  have hl : ∀ (is : List Nat) (ds : List D) (st st' : S), putsD is ds st = some st' → ds.length = is.length := by
    intro is
    induction is with
    | nil => intro ds st st' h; cases ds with
      | nil => rfl
      | cons _ _ => cases h
    | cons i is ih => intro ds st st' h; cases ds with
      | nil => cases h
      | cons d ds => show ds.length + 1 = is.length + 1; rw [ih ds _ _ h]
  cases d with
  | tup ds =>
    obtain ⟨a, xs, rfl, ha, _, ra⟩ := r.inv_tup
    exact ⟨a, xs, rfl, SqT.of ha, by rw [ra.1]; exact hl is ds st st' e, gok_names is ρ σ H st xs ds st' Q e s ra k⟩
  | kt ds =>
    obtain ⟨a, xs, rfl, ha, ra⟩ := r.inv_kt
    exact ⟨a, xs, rfl, ha.sq, by rw [ra.1]; exact hl is ds st st' e, gok_names is ρ σ H st xs ds st' Q e s ra k⟩
  | _ => cases e
def mTo (tg : Tg) (m : M) : MS := fun st => bindS (m st) fun d st1 => match tg d st1 with
  | some st2 => .nx st2
  | none => .no
section
variable {X : Cx} {g : G} {ER : EK} {pos : Pos}
theorem ps_mTo {tg e : Expr} {m : M} {t : TG} {tgd : Tg} {is : List Nat} (he : PE X e (tM g ER m)) (hg : PG X tg t) (ok : GOk g tgd t is) (hs : swapsWithSole [tg] e pos.line X.env = pure false := by rfl) (hw : swappedStores [tg] e X.env = pure none := by rfl)
    (h1 : (assignEach [tg] X.env).map (·.2) = [assign tg X.env] := by rfl) : PS X (.Assign [tg] e pos) (tMS g ER (mTo tgd m)) := by
  refine PSi (ps_asg he hg hs hw h1) fun E σ H h => ?_
  obtain ⟨ρ, st, s, h⟩ := h
  refine ⟨ρ, st, s, (OutS.bind h).mono fun d st1 ρ1 H1 _ h1 s1 v rv => ?_⟩
  cases e1 : tgd d st1 with
  | none => simp only [e1] at h1; exact h1.elim
  | some st2 =>
    simp only [e1] at h1
    exact ok ρ1 σ H1 st1 v d st2 _ e1 s1 rv fun σ' s' ce _ => h1 ρ1 σ' H1 (Ext.refl.ce ce) s'
/-- a, b = x, y: both, then stored -/
def mPar (is : List Nat) (ma : MA) : MS := fun st => bindS (ma st) fun ds st1 => match putsD is ds st1 with
  | some st2 => .nx st2
  | none => .no
theorem ps_mPar {i j : Nat} {x y : Str} {a b : Expr} {ma : MA} {px py pt : Pos} {kt k2 pt2} (hc : X.calm = true) (hN : X.N.Nodup) (hi : X.N[i]? = some x) (hj : X.N[j]? = some y) (hij : i ≠ j)
    (hx : X.env.scope.names.lookup x = some .local) (hy : X.env.scope.names.lookup y = some .local) (ha : PA X [a, b] (tMA g ER ma)) (hw : swappedStores [.Tuple [.Name x px, .Name y py] kt pt] (.Tuple [a, b] k2 pt2) X.env = pure (some [x, y])) (hs : swapsWithSole [.Tuple [.Name x px, .Name y py] kt pt] (.Tuple [a, b] k2 pt2) pos.line X.env = pure false := by rfl) :
    PS X (.Assign [.Tuple [.Name x px, .Name y py] kt pt] (.Tuple [a, b] k2 pt2) pos) (tMS g ER (mPar [i, j] ma)) := by
  refine PSi (ps_par hc hN hi hj hij hx hy ha hw hs) fun E σ H h => ?_
  obtain ⟨ρ, st, s, h⟩ := h
  refine ⟨ρ, st, s, (OutS.bind h).mono fun ds st1 ρ1 H1 _ h1 s1 vs rs => ?_⟩
  match ds, vs, rs, h1 with
  | [], _, _, h1 => exact h1.elim
  | [_], _, _, h1 => exact h1.elim
  | [d, e], vs, rs, h1 =>
    obtain ⟨v, u, rfl, r1, r2⟩ := rs.two
    refine ⟨v, u, rfl, ?_⟩
    have s2 := s1.put i (v := v) (sl := .d d) ⟨v, rfl, r1⟩
    have s3 := s2.put j (v := u) (sl := .d e) ⟨u, rfl, r2.ext fun a o h n => ⟨h, n⟩⟩
    exact h1 ρ1 _ H1 (Ext.refl.ce rfl) s3
  | _ :: _ :: _ :: _, _, _, h1 => exact h1.elim
theorem ps_mPar3 {i j l : Nat} {x y z : Str} {a b c : Expr} {ma : MA} {px py pz pt : Pos} {kt k2 pt2} (hc : X.calm = true) (hN : X.N.Nodup) (hi : X.N[i]? = some x) (hj : X.N[j]? = some y) (hl : X.N[l]? = some z) (hij : i ≠ j) (hil : i ≠ l) (hjl : j ≠ l)
    (hx : X.env.scope.names.lookup x = some .local) (hy : X.env.scope.names.lookup y = some .local) (hz : X.env.scope.names.lookup z = some .local) (ha : PA X [a, b, c] (tMA g ER ma)) (hw : swappedStores [.Tuple [.Name x px, .Name y py, .Name z pz] kt pt] (.Tuple [a, b, c] k2 pt2) X.env = pure (some [x, y, z])) (hs : swapsWithSole [.Tuple [.Name x px, .Name y py, .Name z pz] kt pt] (.Tuple [a, b, c] k2 pt2) pos.line X.env = pure false := by rfl) :
    PS X (.Assign [.Tuple [.Name x px, .Name y py, .Name z pz] kt pt] (.Tuple [a, b, c] k2 pt2) pos) (tMS g ER (mPar [i, j, l] ma)) := by
  refine PSi (ps_par3 hc hN hi hj hl hij hil hjl hx hy hz ha hw hs) fun E σ H h => ?_
  obtain ⟨ρ, st, s, h⟩ := h
  refine ⟨ρ, st, s, (OutS.bind h).mono fun ds st1 ρ1 H1 _ h1 s1 vs rs => ?_⟩
  match ds, vs, rs, h1 with
  | [], _, _, h1 => exact h1.elim
  | [_], _, _, h1 => exact h1.elim
  | [_, _], _, _, h1 => exact h1.elim
  | [d, e, f], vs, rs, h1 =>
    obtain ⟨v, vs', rfl, r1, rs'⟩ := rs.cases_cons
    obtain ⟨u, t, rfl, r2, r3⟩ := rs'.two
    refine ⟨v, u, t, rfl, ?_⟩
    have s2 := s1.put i (v := v) (sl := .d d) ⟨v, rfl, r1⟩
    have s3 := s2.put j (v := u) (sl := .d e) ⟨u, rfl, r2.ext fun a o h n => ⟨h, n⟩⟩
    have s4 := s3.put l (v := t) (sl := .d f) ⟨t, rfl, r3.ext fun a o h n => ⟨h, n⟩⟩
    exact h1 ρ1 _ H1 (Ext.refl.ce rfl) s4
  | _ :: _ :: _ :: _ :: _, _, _, h1 => exact h1.elim
def loopS (tg : Tg) (body : MS) : List D → S → SO
  | [], st => .nx st
  | d :: ds, st => match tg d st with
    | none => .no
    | some st1 => match body st1 with
      | .nx st2 => loopS tg body ds st2
      | .ct st2 => loopS tg body ds st2
      | .bk st2 => .nx st2
      | o => o
def mFor (mi : MI) (tg : Tg) (body : MS) : MS := fun st => bindS (mi st) fun ds st1 => loopS tg body ds st1
theorem Ext.like {ρ : Rh} {H H' : Hp} {σ : L2.St} {st : S} (s : Sim g ρ σ H st) (h : H' = H ∨ ∃ p o, H p = none ∧ H' = upd H p o) : Ext ρ st H ρ st H' ∧ Sim g ρ σ H' st := by
  rcases h with h | ⟨p, o, hp, h⟩
  · rw [h]; exact ⟨Ext.refl, s⟩
  · rw [h]; exact ⟨Ext.new s hp, s.new hp⟩
theorem for_core {t : TG} {tgd : Tg} {is : List Nat} {mb : MS} {ds : List D} {J : It} {ρ0 : Rh} {st0 : S} {σ0 : L2.St} {H0 : Hp} {E : Ends} (ok : GOk g tgd t is) (s0 : Sim g ρ0 σ0 H0 st0) (h0 : OutS g ER ρ0 st0 H0 (loopS tgd mb ds st0) E) (hJ : ItOk g ρ0 st0 H0 J ds) :
    ∃ W : Nat → Nat → L2.St → Hp → Prop, (∃ m, W 0 m σ0 H0) ∧ ∀ i m σ H, W i m σ H → (J.stop i H ∧ E.nx σ H) ∨ (J.go i H ∧ ∃ N : L2.St → Hp → Prop, (∀ σ' H', N σ' H' → ∃ m', m' < m ∧ W (i + 1) m' σ' H') ∧ ∀ x H', J.yld i H x H' → t x σ H' fun σ2 H2 => tMS g ER mb { E with nx := N, ct := N, bk := E.nx } σ2 H2) := by
  refine ⟨fun i m σ' H' => ∃ ρ' st', Ext ρ0 st0 H0 ρ' st' H' ∧ Sim g ρ' σ' H' st' ∧ m = ds.length - i ∧ i ≤ ds.length ∧ OutS g ER ρ' st' H' (loopS tgd mb (ds.drop i) st') E, ⟨ds.length, ρ0, st0, Ext.refl, s0, rfl, Nat.zero_le _, h0⟩, ?_⟩
  rintro i m σ1 H1 ⟨ρ1, st1, x1, s1, rfl, hi, h1⟩
  by_cases hlt : i < ds.length
  · have hd : ds.drop i = ds[i] :: ds.drop (i + 1) := List.drop_eq_getElem_cons hlt
    rw [hd] at h1
    unfold loopS at h1
    have hget : ds[i]? = some ds[i] := List.getElem?_eq_getElem hlt
    obtain ⟨go, yl⟩ := (hJ (Vol ρ1 st1) H1 x1.keep (fun a v => s1.volT v) i).1 _ hget
    refine .inr ⟨go, fun σ' H' => ∃ ρ' st', Ext ρ0 st0 H0 ρ' st' H' ∧ Sim g ρ' σ' H' st' ∧ OutS g ER ρ' st' H' (loopS tgd mb (ds.drop (i + 1)) st') E, fun σ' H' ⟨ρ', st', a, b, c⟩ => ⟨ds.length - (i + 1), by omega, ρ', st', a, b, rfl, hlt, c⟩, fun x H2 hy => ?_⟩
    obtain ⟨hH, hr⟩ := yl x H2 hy
    obtain ⟨x2, s2⟩ := Ext.like s1 hH
    have r2 := hr
    cases e1 : tgd ds[i] st1 with
    | none => rw [e1] at h1; exact h1.elim
    | some st3 =>
      rw [e1] at h1
      refine ok ρ1 σ1 H2 st1 x _ st3 _ e1 s2 r2 fun σ3 s3 ce _ => ⟨ρ1, st3, s3, ?_⟩
      have x3 : Ext ρ1 st1 H1 ρ1 st3 H2 := x2.trans ⟨fun a o h n => ⟨h, fun v => n ((Vol.ce ce a).mp v)⟩, fun _ _ h => h, rfl, fun _ _ => rfl, fun a v => .inl ((Vol.ce ce a).mp v), fun _ h => h⟩
      have h1 : OutS g ER ρ1 st1 H1 (match mb st3 with | .nx st2 => loopS tgd mb (ds.drop (i + 1)) st2 | .ct st2 => loopS tgd mb (ds.drop (i + 1)) st2 | .bk st2 => .nx st2 | o => o) E := h1
      cases e2 : mb st3 with
      | nx st4 => rw [e2] at h1; exact fun ρ4 σ4 H4 x4 s4 => ⟨ρ4, st4, (x1.trans x3).trans x4, s4, OutS.later h1 (x3.trans x4)⟩
      | ct st4 => rw [e2] at h1; exact fun ρ4 σ4 H4 x4 s4 => ⟨ρ4, st4, (x1.trans x3).trans x4, s4, OutS.later h1 (x3.trans x4)⟩
      | bk st4 => rw [e2] at h1; exact fun ρ4 σ4 H4 x4 s4 => h1 ρ4 σ4 H4 (x3.trans x4) s4
      | rt d st4 => rw [e2] at h1; exact fun ρ4 σ4 H4 v x4 s4 r => h1 ρ4 σ4 H4 v (x3.trans x4) s4 r
      | er c vs st4 => rw [e2] at h1; exact fun ρ4 H4 x4 => h1 ρ4 H4 (x3.trans x4)
      | no => rw [e2] at h1; exact h1.elim
  · have e : i = ds.length := by omega
    subst e
    rw [List.drop_length] at h1
    exact .inl ⟨(hJ (Vol ρ1 st1) H1 x1.keep (fun a v => s1.volT v) _).2 (Nat.le_refl _), h1 ρ1 σ1 H1 Ext.refl s1⟩
theorem ps_mFor {iter tg : Expr} {body : List Stmt} {mi : MI} {t : TG} {tgd : Tg} {is : List Nat} {mb : MS} (hp : PassesOwn (model X.prog X.w) X.A X.env X.xe) (hc : X.calm = true) (hi : PI X tg iter (tMI g ER mi)) (hg : PG X tg t) (ok : GOk g tgd t is) (hb : PSs X body (tMS g ER mb)) (hs : ∀ x, foldedSetIterable iter X.env x = pure x := by intro _; rfl) : PS X (.For tg iter body [] pos) (tMS g ER (mFor mi tgd mb)) := by
  refine PSi (ps_for hp hc hi hg hb hs) fun E σ H h => ?_
  obtain ⟨ρ, st, s, h⟩ := h
  exact ⟨ρ, st, s, (OutS.bind h).mono fun ds st0 ρ0 H0 _ h0 s0 J hJ => for_core ok s0 h0 hJ⟩
end
end RE
set_option maxHeartbeats 2000000
namespace RE
open PySem PySem.Spec PyProof.Rows L2
def wipeS (sl : List Sl) : List Nat → List Sl
  | [] => sl
  | v :: vs => (wipeS sl vs).set v .no
theorem wipe_wipe (σ : L2.St) : ∀ vs ws : List Nat, (∀ i ∈ vs, i ∈ ws) → wipe (wipe σ vs) ws = wipe σ ws
  | [], ws, _ => rfl
  | v :: vs, ws, h => by
    show wipe ((wipe σ vs).set v none) ws = wipe σ ws
    rw [wipe_set (h v List.mem_cons_self)]
    exact wipe_wipe σ vs ws fun i hi => h i (List.mem_cons_of_mem _ hi)
def S.with (st : S) (ce : List Ce) : S := ⟨st.sl, ce⟩
def Rh.ent (ρ : Rh) (p : Addr) : Rh := ⟨ρ.ad, fun a => ρ.U a ∨ a = p⟩
def Rh.lev (ρ : Rh) (U : Addr → Prop) : Rh := ⟨ρ.ad, U⟩
section
variable {g : G} {ρ ρ' ρ1 ρ2 : Rh} {σ σ' : L2.St} {H H' H0 H1 H2 : Hp} {st st' st0 st1 st2 : S} {p : Addr} {o : HO}
theorem Sim.setNo (s : Sim g ρ σ H st) (i : Nat) : Sim g ρ (σ.set i none) H ⟨st.sl.set i .no, st.ce⟩ where
  toCells := ⟨s.uok, s.clen, s.cell, s.inj, s.out⟩
  len := by show (σ.set i none).length = (st.sl.set i .no).length; rw [List.length_set, List.length_set, s.len]
  slot := fun j sl v h1 h2 => by
    have h1 : (st.sl.set i .no)[j]? = some sl := h1
    rw [List.getElem?_set] at h1 h2
    by_cases e : i = j
    · rw [if_pos e] at h1
      split at h1
      · cases Option.some.inj h1; trivial
      · cases h1
    · rw [if_neg e] at h1 h2
      exact s.slot j sl v h1 h2
theorem Sim.wipe (s : Sim g ρ σ H st) : ∀ vs : List Nat, Sim g ρ (L2.wipe σ vs) H ⟨wipeS st.sl vs, st.ce⟩
  | [] => s
  | v :: vs => (Sim.wipe s vs).setNo v
theorem vol_ent {a : Addr} : Vol (ρ.ent p) st a ↔ Vol ρ st a ∨ a = p := by
  constructor
  · rintro ((h | h) | h)
    · exact .inl (.inl h)
    · exact .inr h
    · exact .inl (.inr h)
  · rintro ((h | h) | h)
    · exact .inl (.inl h)
    · exact .inr h
    · exact .inl (.inr h)
theorem keep_ent (s : Sim g ρ σ H st) (hp : H p = none) : ∀ a u, H a = some u → ¬ Vol ρ st a → upd H p o a = some u ∧ ¬ Vol (ρ.ent p) st a := fun a u h n =>
  ⟨by rw [upd_ne (ne_of_none h hp)]; exact h, fun v => by
    rcases vol_ent.mp v with v | v
    · exact n v
    · rw [v, hp] at h; cases h⟩
theorem Cells.ent (s : Sim g ρ σ H st) (hp : H p = none) (no : NT o) : Cells g (ρ.ent p) (upd H p o) st where
  uok := fun a h => by
    by_cases e : a = p
    · exact ⟨o, by rw [e]; exact upd_same, no⟩
    · rcases h with h | h
      · obtain ⟨u, hu, nt⟩ := s.uok a h
        exact ⟨u, by rw [upd_ne e]; exact hu, nt⟩
      · exact absurd h e
  clen := s.clen
  cell := fun k c a h1 h2 => by
    have q := s.cell k c a h1 h2
    by_cases hc : c.alive = true
    · obtain ⟨u, hu⟩ := s.vol (a := a) (.inr ⟨k, c, h1, hc, h2⟩)
      exact q.ext (upd_ne (ne_of_none hu hp)) (keep_ent s hp)
    · cases c <;> first | trivial | exact absurd rfl hc
  inj := s.inj
  out := fun k c a h1 hc h2 v => by
    rcases v with v | v
    · exact s.out k c a h1 hc h2 v
    · obtain ⟨u, hu⟩ := s.vol (a := a) (.inr ⟨k, c, h1, hc, h2⟩)
      rw [v, hp] at hu; cases hu
theorem SlOk.ext {A A' : Addr → Prop} {v : Option V} {sl : Sl} (h : SlOk g A ρ H v sl) (k : ∀ a o, H a = some o → ¬ A a → H' a = some o ∧ ¬ A' a) (pre : ∀ (k : Nat) a, ρ.ad[k]? = some a → ρ'.ad[k]? = some a) : SlOk g A' ρ' H' v sl := by
  cases sl with
  | no => trivial
  | d x => obtain ⟨u, e, r⟩ := h; exact ⟨u, e, r.ext k⟩
  | rf j => obtain ⟨a, e, q⟩ := h; exact ⟨a, e, pre j a q⟩
theorem Sim.ent (s : Sim g ρ σ H st) (hp : H p = none) (no : NT o) : Sim g (ρ.ent p) σ (upd H p o) st where
  toCells := Cells.ent s hp no
  len := s.len
  slot := fun i sl v h1 h2 => (s.slot i sl v h1 h2).ext (keep_ent s hp) fun _ _ h => h
theorem vol_lev {U : Addr → Prop} (hU : ∀ a, U a → ρ.U a) {a : Addr} (h : Vol (ρ.lev U) st a) : Vol ρ st a := h.imp (hU a) id
theorem Cells.lev (s : Cells g ρ H st) {U : Addr → Prop} (hU : ∀ a, U a → ρ.U a) : Cells g (ρ.lev U) H st where
  uok := fun a h => s.uok a (hU a h)
  clen := s.clen
  cell := fun k c a h1 h2 => (s.cell k c a h1 h2).ext rfl fun _ _ h n => ⟨h, fun v => n (vol_lev hU v)⟩
  inj := s.inj
  out := fun k c a h1 hc h2 v => s.out k c a h1 hc h2 (hU a v)
theorem Sim.lev (s : Sim g ρ σ H st) {U : Addr → Prop} (hU : ∀ a, U a → ρ.U a) : Sim g (ρ.lev U) σ H st where
  toCells := s.toCells.lev hU
  len := s.len
  slot := fun i sl v h1 h2 => (s.slot i sl v h1 h2).ext (fun _ _ h n => ⟨h, fun v => n (vol_lev hU v)⟩) fun _ _ h => h
/-- what is behind a stretch with p not spoken of -/
theorem Ext.step_lev (e0 : Ext ρ st0 H0 (ρ1.lev ρ.U) st1 H1) (hU : ρ1.U = (ρ.ent p).U) (h0 : H0 p = none) (e : Ext ρ1 st1 H1 ρ2 st2 H2) : Ext ρ st0 H0 (ρ2.lev ρ.U) st2 H2 where
  keep := fun a u h n => by
    obtain ⟨h1, n1⟩ := e0.keep a u h n
    have n2 : ¬ Vol ρ1 st1 a := by
      rintro (v | v)
      · rw [hU] at v
        rcases v with v | v
        · exact n1 (.inl v)
        · rw [v, h0] at h; cases h
      · exact n1 (.inr v)
    obtain ⟨h3, n3⟩ := e.keep a u h1 n2
    refine ⟨h3, fun v => n3 (vol_lev (fun b hb => ?_) v)⟩
    rw [e.same, hU]; exact .inl hb
  pre := fun k a h => e.pre k a (e0.pre k a h)
  same := rfl
  un := fun a h => by
    rw [e.un a (by rw [hU]; exact .inl h)]
    exact e0.un a h
  more := fun a v => by
    have v' : Vol ρ2 st2 a := vol_lev (fun b hb => by rw [e.same, hU]; exact .inl hb) v
    rcases e.more a v' with (v1 | v1) | v1
    · rw [hU] at v1
      rcases v1 with v1 | v1
      · exact e0.more a (.inl v1)
      · right; rw [v1]; exact h0
    · exact e0.more a (.inr v1)
    · exact .inr (e0.mono a v1)
  mono := fun a h => e0.mono a (e.mono a h)
theorem Ext.touch (e0 : Ext ρ st0 H0 ρ1 st1 H1) (h0 : H0 p = none) (su : ∀ a, ρ.U a → ∃ u, H0 a = some u) : Ext ρ st0 H0 ρ1 st1 (upd H1 p o) where
  keep := fun a u h n => by
    rw [upd_ne (ne_of_none h h0)]
    exact e0.keep a u h n
  pre := e0.pre
  same := e0.same
  un := fun a h => by
    obtain ⟨u, hu⟩ := su a h
    rw [upd_ne (ne_of_none hu h0)]
    exact e0.un a h
  more := e0.more
  mono := fun a h => by
    by_cases e : a = p
    · rw [e]; exact h0
    · rw [upd_ne e] at h; exact e0.mono a h
/-- an object that is not spoken of may be written -/
theorem keep_touch (u : ρ.U p) : ∀ a q, H a = some q → ¬ Vol ρ st a → upd H p o a = some q ∧ ¬ Vol ρ st a := fun a q h n =>
  ⟨by rw [upd_ne (fun e => n (.inl (by rw [e]; exact u)))]; exact h, n⟩
theorem nt_l {xs : List V} : NT (.lst xs) := fun _ z => by cases z
theorem Cells.touch (s : Cells g ρ H st) (u : ρ.U p) (no : NT o) : Cells g ρ (upd H p o) st where
  uok := fun a h => by
    by_cases e : a = p
    · exact ⟨o, by rw [e]; exact upd_same, no⟩
    · rw [upd_ne e]; exact s.uok a h
  clen := s.clen
  cell := fun k c a h1 h2 => by
    by_cases hc : c.alive = true
    · exact (s.cell k c a h1 h2).ext (upd_ne fun e => s.out k c a h1 hc h2 (by rw [e]; exact u)) (keep_touch u)
    · cases c <;> first | trivial | exact absurd rfl hc
  inj := s.inj
  out := s.out
theorem Sim.touch (s : Sim g ρ σ H st) (u : ρ.U p) (no : NT o) : Sim g ρ σ (upd H p o) st where
  toCells := s.toCells.touch u no
  len := s.len
  slot := fun i sl v h1 h2 => (s.slot i sl v h1 h2).ext (keep_touch u) fun _ _ h => h
/-- the slots of an earlier state over the cells of a later one -/
theorem Sim.back (s : Sim g ρ σ H st) (e : Ext ρ st H ρ' st' H') (c : Cells g ρ' H' st') : Sim g ρ' σ H' (st.with st'.ce) where
  toCells := ⟨c.uok, c.clen, c.cell, c.inj, c.out⟩
  len := s.len
  slot := fun i sl v h1 h2 => (s.slot i sl v h1 h2).ext e.keep e.pre
end
def lcS (tg : Tg) (tt : MT) (me : M) (w : List Sl) : List D → List Ce → Option (List D × List Ce)
  | [], ce => some ([], ce)
  | d :: ds, ce => match tg d ⟨w, ce⟩ with
    | none => none
    | some st1 => match tt st1 with
      | .ok true st2 => match me st2 with
        | .ok x st3 => match lcS tg tt me w ds st3.ce with
          | some (xs, ce') => some (x :: xs, ce')
          | none => none
        | _ => none
      | .ok false st2 => lcS tg tt me w ds st2.ce
      | _ => none
def mLc (mi : MI) (tg : Tg) (tt : MT) (me : M) (vs : List Nat) : M := fun st => bindO (mi st) fun ds st1 => match lcS tg tt me (wipeS st1.sl vs) ds st1.ce with
  | some (xs, ce) => if xs.length ≤ 1000000 then .ok (.lst xs) (st1.with ce) else .no
  | none => .no
/-- a list that grows at p, not spoken of -/
structure Grow (g : G) (ρ0 : Rh) (st0 : S) (H0 : Hp) (σ : L2.St) (p : Addr) (ρ : Rh) (ce : List Ce) (H : Hp) (acc : List V) (ds : List D) : Prop where
  ext : Ext ρ0 st0 H0 (ρ.lev ρ0.U) (st0.with ce) H
  u : ρ.U = (ρ0.ent p).U
  sim : Sim g ρ σ H (st0.with ce)
  at' : H p = some (.lst acc)
  rp : RpA g (Vol ρ (st0.with ce)) H acc ds
section
variable {g : G} {ER : EK} {ρ0 ρ ρ' : Rh} {st0 st' : S} {H0 H H' : Hp} {σ σ' : L2.St} {p : Addr} {ce : List Ce} {acc : List V} {ds : List D}
theorem Ext.zero (hp : H p = none) (su : ∀ a, ρ.U a → ∃ u, H a = some u) {o : HO} {st : S} : Ext ρ st H ρ st (upd H p o) := Ext.touch Ext.refl hp su
theorem Grow.zero (s : Sim g ρ0 σ H0 st0) (hp : H0 p = none) : Grow g ρ0 st0 H0 σ p (ρ0.ent p) st0.ce (upd H0 p (.lst [])) [] [] where
  ext := Ext.zero hp s.uo
  u := rfl
  sim := s.ent hp nt_l
  at' := upd_same
  rp := RpA.nil
/-- the slots don't matter -/
theorem Ext.with {stw st1 : S} {ρ : Rh} {H : Hp} (e : Ext ρ stw H ρ' st' H') (hw : stw.ce = ce) : Ext ρ (st0.with ce) H ρ' (st1.with st'.ce) H' :=
  ⟨fun a o h n => e.keep a o h fun v => n ((Vol.ce hw a).mp v), e.pre, e.same, e.un, fun a v => (e.more a v).imp (Vol.ce hw a).mp id, e.mono⟩
/-- .. a stretch further -/
theorem Grow.go (G : Grow g ρ0 st0 H0 σ p ρ ce H acc ds) (h0 : H0 p = none) {stw : S} (hw : stw.ce = ce) (e : Ext ρ stw H ρ' st' H') (c : Cells g ρ' H' st') : Grow g ρ0 st0 H0 σ p ρ' st'.ce H' acc ds where
  ext := Ext.step_lev G.ext G.u h0 (e.with hw)
  u := e.same.trans G.u
  sim := G.sim.back (e.with hw) c
  at' := by rw [e.un p (by rw [G.u]; exact .inr rfl)]; exact G.at'
  rp := G.rp.go (e.with hw)
theorem Grow.push (G : Grow g ρ0 st0 H0 σ p ρ ce H acc ds) (h0 : H0 p = none) (su : ∀ a, ρ0.U a → ∃ u, H0 a = some u) {y : V} {d : D} (r : Rp g (Vol ρ (st0.with ce)) H y d) : Grow g ρ0 st0 H0 σ p ρ ce (upd H p (.lst (acc ++ [y]))) (acc ++ [y]) (ds ++ [d]) where
  ext := Ext.touch G.ext h0 su
  u := G.u
  sim := G.sim.touch (by rw [G.u]; exact .inr rfl) nt_l
  at' := upd_same
  rp := (G.rp.append (RpA.cons r RpA.nil)).ext (keep_touch (by rw [G.u]; exact .inr rfl))
theorem Grow.end (G : Grow g ρ0 st0 H0 σ p ρ ce H acc ds) (h0 : H0 p = none) (su : ∀ a, ρ0.U a → ∃ u, H0 a = some u) : Ext ρ0 st0 H0 (ρ.lev ρ0.U) (st0.with ce) H ∧ Sim g (ρ.lev ρ0.U) σ H (st0.with ce) ∧ Rp g (Vol (ρ.lev ρ0.U) (st0.with ce)) H (.ref p) (.lst ds) := by
  have hU : ∀ a, ρ0.U a → ρ.U a := fun a h => by rw [G.u]; exact .inl h
  refine ⟨G.ext, G.sim.lev hU, Rp.lst' G.at' ?_ (G.rp.ext fun a o h n => ⟨h, fun v => n (vol_lev hU v)⟩)⟩
  rintro (v | ⟨k, c, h1, hc, h2⟩)
  · obtain ⟨u, hu⟩ := su p v
    rw [h0] at hu; cases hu
  · exact G.sim.out k c p h1 hc h2 (by rw [G.u]; exact .inr rfl)
/-- the reading of a comprehension -/
theorem tM_lc {mi : MI} {tgd : Tg} {t : TG} {is vs : List Nat} {tt : MT} {me : M} (ok : GOk g tgd t is) (hv : ∀ i ∈ is, i ∈ vs) {σ : L2.St} {H : Hp} {Q : VK} (h : tM g ER (mLc mi tgd tt me vs) σ H Q) :
    tLc (tMI g ER mi) t (tMT g erNo tt) (tM g erNo me) vs σ H Q := by
  obtain ⟨ρ, st, s, h⟩ := h
  refine ⟨ρ, st, s, (OutC.bind h).mono fun ds st0 ρ0 H0 _ h0 s0 J hJ => ?_⟩
  intro p hp
  cases er : lcS tgd tt me (wipeS st0.sl vs) ds st0.ce with
  | none => simp only [er] at h0; exact h0.elim
  | some r =>
  obtain ⟨xs, ceE⟩ := r
  simp only [er] at h0
  by_cases hz : xs.length ≤ 1000000
  case neg => rw [if_neg hz] at h0; exact h0.elim
  rw [if_pos hz] at h0
  refine ⟨fun i m H' => m = ds.length - i ∧ i ≤ ds.length ∧ ∃ ρ ce acc dd rest, Grow g ρ0 st0 H0 σ p ρ ce H' acc dd ∧ lcS tgd tt me (wipeS st0.sl vs) (ds.drop i) ce = some (rest, ceE) ∧ dd ++ rest = xs, ⟨ds.length, rfl, Nat.zero_le _, _, _, _, _, xs, Grow.zero s0 hp, er, rfl⟩, ?_⟩
  rintro i m H1 ⟨rfl, hi, ρ1, ce1, acc, dd, rest, Gr, er1, hx⟩
  by_cases hlt : i < ds.length
  · have hd : ds.drop i = ds[i] :: ds.drop (i + 1) := List.drop_eq_getElem_cons hlt
    rw [hd] at er1
    unfold lcS at er1
    have hget : ds[i]? = some ds[i] := List.getElem?_eq_getElem hlt
    have kp : ∀ a o, H0 a = some o → ¬ Vol ρ0 st0 a → H1 a = some o ∧ ¬ Vol ρ1 (st0.with ce1) a := fun a o h n => by
      obtain ⟨h1, n1⟩ := Gr.ext.keep a o h n
      refine ⟨h1, fun v => ?_⟩
      rcases v with v | v
      · rw [Gr.u] at v
        rcases v with v | v
        · exact n1 (.inl v)
        · rw [v, hp] at h; cases h
      · exact n1 (.inr v)
    obtain ⟨go, yl⟩ := (hJ (Vol ρ1 (st0.with ce1)) H1 kp (fun a v => Gr.sim.volT v) i).1 _ hget
    refine .inr ⟨go, fun H' => i + 1 ≤ ds.length ∧ ∃ ρ ce acc dd rest, Grow g ρ0 st0 H0 σ p ρ ce H' acc dd ∧ lcS tgd tt me (wipeS st0.sl vs) (ds.drop (i + 1)) ce = some (rest, ceE) ∧ dd ++ rest = xs, fun H' ⟨a, b⟩ => ⟨ds.length - (i + 1), by omega, rfl, a, b⟩, fun x H2 hy => ?_⟩
    obtain ⟨hH, r2⟩ := yl x H2 hy
    obtain ⟨x2, s2⟩ := Ext.like Gr.sim hH
    cases e1 : tgd ds[i] ⟨wipeS st0.sl vs, ce1⟩ with
    | none => simp only [e1] at er1; cases er1
    | some st3 =>
    simp only [e1] at er1
    have G2 := Gr.go hp (stw := st0.with ce1) rfl x2 s2.toCells
    have sw := G2.sim.wipe vs
    refine ok ρ1 _ H2 ⟨wipeS st0.sl vs, ce1⟩ x _ st3 _ e1 sw r2 fun σ3 s3 ce3 hw => ⟨by rw [hw vs hv]; exact wipe_wipe σ vs vs fun _ h => h, ?_⟩
    have G3 := G2.go hp (stw := st3) ce3 Ext.refl s3.toCells
    refine ⟨ρ1, st3, s3, ?_⟩
    cases e2 : tt st3 with
    | no => simp only [e2] at er1; cases er1
    | er c v s => simp only [e2] at er1; cases er1
    | ok b st4 =>
    intro ρ4 H4 x4 s4
    have G4 := G2.go hp (stw := st3) ce3 x4 s4.toCells
    cases b with
    | false =>
      simp only [e2] at er1
      rw [if_neg (by decide)]
      exact ⟨hlt, ρ4, st4.ce, acc, dd, rest, G4, er1, hx⟩
    | true =>
      simp only [e2] at er1
      rw [if_pos rfl]
      refine ⟨ρ4, st4, s4, ?_⟩
      cases e3 : me st4 with
      | no => simp only [e3] at er1; cases er1
      | er c v s => simp only [e3] at er1; cases er1
      | ok d st5 =>
      simp only [e3] at er1
      intro ρ5 H5 x5 s5 y ry
      cases e4 : lcS tgd tt me (wipeS st0.sl vs) (ds.drop (i + 1)) st5.ce with
      | none => simp only [e4] at er1; cases er1
      | some r5 =>
      obtain ⟨rest5, ce5⟩ := r5
      simp only [e4] at er1
      cases Option.some.inj er1
      have G5 := G4.go hp (stw := st4) rfl x5 s5.toCells
      have ry' : Rp g (Vol ρ5 (st0.with st5.ce)) H5 y d := ry
      have hl : acc.length = dd.length := G5.rp.1
      have hz2 : dd.length + (rest5.length + 1) ≤ 1000000 := by
        have q : dd ++ d :: rest5 = xs := hx
        rw [← q, List.length_append, List.length_cons] at hz
        exact hz
      exact ⟨acc, G5.at', by have : (1000000 : Nat) < sizeLine := by decide
                             omega, hlt, ρ5, st5.ce, _, _, rest5, G5.push hp s0.uo ry', e4, by rw [List.append_assoc]; exact hx⟩
  · have e : i = ds.length := by omega
    subst e
    rw [List.drop_length] at er1
    unfold lcS at er1
    cases Option.some.inj er1
    rw [List.append_nil] at hx
    subst hx
    have kp : ∀ a o, H0 a = some o → ¬ Vol ρ0 st0 a → H1 a = some o ∧ ¬ Vol (ρ1.lev ρ0.U) (st0.with ceE) a := Gr.ext.keep
    obtain ⟨q1, q2, q3⟩ := Gr.end hp s0.uo
    exact .inl ⟨(hJ _ H1 kp (fun a v => q2.volT v) _).2 (Nat.le_refl _), h0 _ H1 q1 q2 _ q3⟩
/-- no test -/
def mYes : MT := fun st => .ok true st
theorem pts_mNil {X : Cx} : PTs X [] (tMT g erNo mYes) := ⟨fun pq s σ H Q I h => by
  obtain ⟨ρ, st, sm, h⟩ := h
  exact (pts_nil (X := X)).run pq s σ H Q I (h ρ H Ext.refl sm)⟩
theorem pe_mLc {X : Cx} {elt tg iter : Expr} {ifs : List Expr} {scope : Scope} {own : List (Str × Nat)} {pos : Pos} {mi : MI} {tgd : Tg} {t : TG} {is : List Nat} {tt : MT} {me : M} (hc : X.calm = true) (hN : X.N.Nodup) (hi : PI X tg iter (tMI g ER mi)) (bk : BlkOk X.N X.env.scope scope own) (ok : GOk g tgd t is) (hv : ∀ i ∈ is, i ∈ own.map (·.2))
    (hg : ∀ (s : Shared) (H : Hp) (C : Addr) (cl : List (Str × Addr)) (fp : List Addr), PG (X.blk s H scope (compEnvC scope cl C X.env) fp) tg t) (ht : ∀ (s : Shared) (H : Hp) (C : Addr) (cl : List (Str × Addr)) (fp : List Addr), PTs (X.blk s H scope (compEnvC scope cl C X.env) fp) ifs (tMT g erNo tt))
    (he : ∀ (s : Shared) (H : Hp) (C : Addr) (cl : List (Str × Addr)) (fp : List Addr), PE (X.blk s H scope (compEnvC scope cl C X.env) fp) elt (tM g erNo me)) (hs : ∀ x, foldedSetIterable iter X.env x = pure x := by intro _; rfl) :
    PE X (.ListComp elt [⟨tg, iter, ifs, 0⟩] scope pos) (tM g ER (mLc mi tgd tt me (own.map (·.2)))) := PEi (pe_lc hc hN hi bk hg ht he hs) fun _ _ _ h => tM_lc ok hv h
theorem ps_mLc {X : Cx} {i : Nat} {y : Str} {py : Pos} {elt tg iter : Expr} {ifs : List Expr} {scope : Scope} {own : List (Str × Nat)} {pos spos : Pos} {mi : MI} {tgd : Tg} {t : TG} {is : List Nat} {tt : MT} {me : M} (hc : X.calm = true) (hN : X.N.Nodup) (hy : X.N[i]? = some y) (hyl : X.env.scope.names.lookup y = some .local)
    (hsw : swapsWith (.ListComp elt [⟨tg, iter, ifs, 0⟩] scope pos) (some (.Name y py)) spos.line X.env = pure true) (hi : PI X tg iter (tMI g ER mi)) (bk : BlkOk X.N X.env.scope scope own) (ok : GOk g tgd t is) (hv : ∀ i ∈ is, i ∈ own.map (·.2))
    (hg : ∀ (s : Shared) (H : Hp) (C : Addr) (cl : List (Str × Addr)) (fp : List Addr), PG (X.blk s H scope (compEnvC scope cl C X.env) fp) tg t) (ht : ∀ (s : Shared) (H : Hp) (C : Addr) (cl : List (Str × Addr)) (fp : List Addr), PTs (X.blk s H scope (compEnvC scope cl C X.env) fp) ifs (tMT g erNo tt))
    (he : ∀ (s : Shared) (H : Hp) (C : Addr) (cl : List (Str × Addr)) (fp : List Addr), PE (X.blk s H scope (compEnvC scope cl C X.env) fp) elt (tM g erNo me)) (hs : ∀ x, foldedSetIterable iter X.env x = pure x := by intro _; rfl) :
    PS X (.Assign [.Name y py] (.ListComp elt [⟨tg, iter, ifs, 0⟩] scope pos) spos) (tMS g ER (mAsg i (mLc mi tgd tt me (own.map (·.2))))) := by
  refine PSi (ps_setLc hc hN hy hyl hsw hi bk hg ht he hs) fun E σ H h => ?_
  obtain ⟨ρ, st, s, h⟩ := h
  refine tM_lc ok hv ⟨ρ, st, s, (OutS.bind h).mono fun d st1 ρ1 H1 _ h1 s1 v rv => ?_⟩
  exact h1 ρ1 _ H1 (Ext.put i _) (s1.put i ⟨v, rfl, rv⟩)
end
end RE
set_option maxHeartbeats 2000000
namespace RE
open PySem PySem.Spec PyProof.Rows L2
end RE
set_option maxHeartbeats 2000000
namespace RE
open PySem PySem.Spec PyProof.Rows L2
/-- a new dict, of either kind -/
inductive NewD : HO → Prop where
  | k : NewD (.dK [])
  | t : NewD (.dT [])
/-- the block of a comprehension that makes a dict at p -/
structure Blk (X : Cx) (pn : List (Addr × Obj)) (σ : L2.St) (vs : List Nat) (fq : List Addr) (tn : Nat → Heap → Prop) (sc : Scope) (ce : Env) (HD : Hp) (sD sB : Shared) : Prop where
  beg : Inv (X.blk sD HD sc ce fq) [] (wipe σ vs) HD sB
  off : ∀ b ∈ fq, HD b = none
  its : tn 0 sB.heap
  stay : ∀ {σ' : L2.St} {H' : Hp} {s' : Shared}, Inv (X.blk sD HD sc ce fq) [] σ' H' s' → (∀ b ∈ fq, H' b = none) → ∀ b ∈ fq, FpOk (X.blk sD HD sc ce fq) [] H' b
  out : ∀ {σ' : L2.St} {H' : Hp} {s' : Shared}, Inv (X.blk sD HD sc ce fq) [] σ' H' s' → Inv X pn σ H' s' ∧ (∃ m, s'.heap.Ns sD.heap.objs.size m) ∧ FpOk X pn H' sD.heap.objs.size
theorem Blk.make {X : Cx} {pn : List (Addr × Obj)} {σ : L2.St} {own : List (Str × Nat)} {fq : List Addr} {tn : Nat → Heap → Prop} {sc : Scope} {H : Hp} {s : Shared} {o0 : HO} {tg : Expr} {J : It} {itr : Addr}
    (n0 : NewD o0) (hN : X.N.Nodup) (In : Inv X pn σ H s) (T : Turn X.prog X.w X.K tg J fq itr tn) (t : tn 0 s.heap) (off : ∀ b ∈ fq, FpOk X pn H b) (ok : BlkOk X.N X.env.scope sc own)
    {sD sB : Shared} {ce : Env} (eD : sD = { s with heap := s.heap.push { cls := .type "dict", data := .dict #[] } }) (eB : sB = { sD with heap := pushCells (sD.heap.push { cls := .type "dict", data := .dict #[] }) sc.names })
    (eC : ce = compEnvC sc (cellsFrom (sD.heap.objs.size + 1) sc.names (cloFrom X.env.cells sc.names [])) sD.heap.objs.size X.env) :
    Blk X pn σ (own.map (·.2)) fq tn sc ce (upd H s.heap.objs.size o0) sD sB := by
  have ID : Inv X pn σ (upd H s.heap.objs.size o0) sD := by
    rw [eD]
    refine In.laid (t' := s.toks) (fun b o e => Heap.get?_push_of_some _ e) (Nat.le_refl _) ?_
    cases n0 with
    | k => exact dk_empty s.heap In.big
    | t => exact dt_empty s.heap In.big
  have kD : ∀ b o, s.heap.get? b = some o → sD.heap.get? b = some o := fun b o e => by rw [eD]; exact Heap.get?_push_of_some _ e
  have fD : ∀ b ∈ fq, FpOk X pn (upd H s.heap.objs.size o0) b ∧ b < sD.heap.objs.size := fun b hb => by
    obtain ⟨o, e, _⟩ := T.obj _ _ t b hb
    have lt := Heap.lt_size e
    refine ⟨⟨?_, (off b hb).2⟩, Heap.lt_size (kD b o e)⟩
    rw [upd_ne (Nat.ne_of_lt lt)]
    exact (off b hb).1
  have IB := block_start ID ok hN fD
  have IB' : Inv (X.blk sD (upd H s.heap.objs.size o0) sc ce fq) [] (wipe σ (own.map (·.2))) (upd H s.heap.objs.size o0) sB := by rw [eB, eC]; exact IB
  have kB : ∀ b o, s.heap.get? b = some o → sB.heap.get? b = some o := fun b o e => by
    rw [eB]; exact pushCells_keeps _ _ _ _ (Heap.get?_push_of_some _ (kD b o e))
  have cl : ce.locals = sD.heap.objs.size := by rw [eC]; rfl
  refine ⟨IB', fun b hb => (fD b hb).1.1, T.keep _ _ _ t fun b _ o e => kB b o e, fun {σ' H' s'} I' hn b hb => ?_, fun {σ' H' s'} I' => ?_⟩
  · exact ⟨hn b hb, (I'.ok.exf b hb).1, I'.ok.exfs b hb, .inl hb, fun x c e => (I'.ok.exf b hb).2 x c e, fun p hp => absurd (show p ∈ ([] : List (Addr × Obj)) ++ [] from hp) (by simp)⟩
  · have I1 : Inv X pn σ H' s' := ID.call' (ch := fq) I'.os I'.base I'.hok I'.bare fun b hb => by
      obtain ⟨_, a1, a2, a3, a4, a5⟩ := (fD b hb).1
      exact ⟨a3, a1, a4, a5⟩
    have nl : H' ce.locals = none := I'.free
    obtain ⟨m, hm, _⟩ := I'.loc
    have hm : s'.heap.Ns ce.locals m := hm
    rw [cl] at nl hm
    exact ⟨I1, ⟨m, hm⟩, ID.fpOk (Nat.le_refl _) nl⟩
end RE
set_option maxHeartbeats 2000000
namespace RE
open PySem PySem.Spec PyProof.Rows L2
/-- a kind of dicts: by keys that are numbers and texts, by keys that are tuples of them -/
structure DKind (κ : Type) [DecidableEq κ] where
  ho : List (κ × V) → HO
  dd : List (κ × D) → D
  key : D → Option κ
  new : NewD (ho [])
  nt : ∀ kvs, NT (ho kvs)
  put : ∀ (g : G) (A : Addr → Prop) (H : Hp) (y v : V) (d : D) (k : κ) (kvs : List (κ × V)) (p : Addr), Rp g A H y d → key d = some k → H p = some (ho kvs) → kvs.length < sizeLine → DPut H p y v (upd H p (ho (putK kvs k v)))
  rp : ∀ (g : G) (A : Addr → Prop) (H : Hp) (p : Addr) (kvs : List (κ × V)) (ds : List (κ × D)), H p = some (ho kvs) → ¬ A p → kvs.map (·.1) = ds.map (·.1) → RpA g A H (kvs.map (·.2)) (ds.map (·.2)) → Rp g A H (.ref p) (dd ds)
theorem pair_split {κ : Type} {g : G} {A : Addr → Prop} {H : Hp} {kvs : List (κ × V)} {ds : List (κ × D)} (hk : kvs.map (·.1) = ds.map (·.1)) (r : RpA g A H (kvs.map (·.2)) (ds.map (·.2))) :
    kvs.length = ds.length ∧ (∀ (i : Nat) x d, kvs[i]? = some x → ds[i]? = some d → x.1 = d.1) ∧ ∀ (i : Nat) x d, kvs[i]? = some x → ds[i]? = some d → Rp g A H x.2 d.2 := by
  refine ⟨by have := congrArg List.length hk; simpa using this, fun i x d h1 h2 => ?_, fun i x d h1 h2 => r.2 i x.2 d.2 (by rw [List.getElem?_map, h1]; rfl) (by rw [List.getElem?_map, h2]; rfl)⟩
  have e1 : (kvs.map (·.1))[i]? = some x.1 := by rw [List.getElem?_map, h1]; rfl
  have e2 : (ds.map (·.1))[i]? = some d.1 := by rw [List.getElem?_map, h2]; rfl
  rw [hk, e2] at e1
  exact (Option.some.inj e1).symm
def dkK : DKind Key where
  ho := .dK
  dd := .dK
  key := keyD
  new := .k
  nt := fun _ _ z => by cases z
  put := fun g A H y v d k kvs p r e hp hz => by
    rw [keyD_ok r e]
    exact DPut.k hp hz
  rp := fun g A H p kvs ds hp n hk r => by
    obtain ⟨a, b, c⟩ := pair_split hk r
    exact .dK (.inl hp) n a b c
def dkT : DKind (List Key) where
  ho := .dT
  dd := .dT
  key := keysD
  new := .t
  nt := fun _ _ z => by cases z
  put := fun g A H y v d k kvs p r e hp hz => by
    obtain ⟨b, rfl, hb⟩ := keysD_ok r e
    exact DPut.t hp hb hz
  rp := fun g A H p kvs ds hp n hk r => by
    obtain ⟨a, b, c⟩ := pair_split hk r
    exact .dT (.inl hp) n a b c
section
variable {κ : Type}
variable [DecidableEq κ]
def putE (ds : List (κ × D)) (k : κ) (d : D) : List (κ × D) := if (ds.any fun e => decide (e.1 = k)) = true then ds.map (fun e => if e.1 = k then (e.1, d) else e) else ds ++ [(k, d)]
theorem putE_ok {g : G} {A : Addr → Prop} {H : Hp} {kvs : List (κ × V)} {ds : List (κ × D)} {k : κ} {v : V} {d : D} (hk : kvs.map (·.1) = ds.map (·.1)) (r : RpA g A H (kvs.map (·.2)) (ds.map (·.2))) (rv : Rp g A H v d) :
    (putK kvs k v).map (·.1) = (putE ds k d).map (·.1) ∧ RpA g A H ((putK kvs k v).map (·.2)) ((putE ds k d).map (·.2)) := by
  have e : (kvs.any fun e => decide (e.1 = k)) = ds.any fun e => decide (e.1 = k) := by
    have q1 : (kvs.any fun e => decide (e.1 = k)) = (kvs.map (·.1)).any fun x => decide (x = k) := by rw [List.any_map]; rfl
    have q2 : (ds.any fun e => decide (e.1 = k)) = (ds.map (·.1)).any fun x => decide (x = k) := by rw [List.any_map]; rfl
    rw [q1, q2, hk]
  unfold putK putE
  rw [e]
  split
  · rename_i hany
    clear e hany
    induction kvs generalizing ds with
    | nil => cases ds with
      | nil => exact ⟨rfl, RpA.nil⟩
      | cons _ _ => cases hk
    | cons x xs ih => cases ds with
      | nil => cases hk
      | cons y ys =>
        have h1 : x.1 = y.1 := (List.cons.inj hk).1
        have h2 : xs.map (·.1) = ys.map (·.1) := (List.cons.inj hk).2
        obtain ⟨r1, r2⟩ := r.uncons
        obtain ⟨i1, i2⟩ := ih h2 r2
        by_cases hx : x.1 = k
        · have hy : y.1 = k := by rw [← h1]; exact hx
          simp only [List.map_cons, if_pos hx, if_pos hy]
          exact ⟨by rw [h1]; exact congrArg _ i1, RpA.cons rv i2⟩
        · have hy : ¬ y.1 = k := by rw [← h1]; exact hx
          simp only [List.map_cons, if_neg hx, if_neg hy]
          exact ⟨by rw [h1]; exact congrArg _ i1, RpA.cons r1 i2⟩
  · rw [List.map_append, List.map_append, List.map_append, List.map_append, hk]
    exact ⟨rfl, r.append (RpA.cons rv RpA.nil)⟩
variable (DK : DKind κ)
/-- a dict that grows at p, not spoken of -/
structure GrowD (g : G) (ρ0 : Rh) (st0 : S) (H0 : Hp) (σ : L2.St) (p : Addr) (ρ : Rh) (ce : List Ce) (H : Hp) (acc : List (κ × V)) (ds : List (κ × D)) : Prop where
  ext : Ext ρ0 st0 H0 (ρ.lev ρ0.U) (st0.with ce) H
  u : ρ.U = (ρ0.ent p).U
  sim : Sim g ρ σ H (st0.with ce)
  at' : H p = some (DK.ho acc)
  ks : acc.map (·.1) = ds.map (·.1)
  rp : RpA g (Vol ρ (st0.with ce)) H (acc.map (·.2)) (ds.map (·.2))
variable {DK}
variable {g : G} {ER : EK} {ρ0 ρ ρ' : Rh} {st0 st' : S} {H0 H H' : Hp} {σ σ' : L2.St} {p : Addr} {ce : List Ce} {acc : List (κ × V)} {ds : List (κ × D)}
theorem GrowD.zero (s : Sim g ρ0 σ H0 st0) (hp : H0 p = none) : GrowD DK g ρ0 st0 H0 σ p (ρ0.ent p) st0.ce (upd H0 p (DK.ho [])) [] [] where
  ext := Ext.zero hp s.uo
  u := rfl
  sim := s.ent hp (DK.nt _)
  at' := upd_same
  ks := rfl
  rp := RpA.nil
theorem GrowD.go (G : GrowD DK g ρ0 st0 H0 σ p ρ ce H acc ds) (h0 : H0 p = none) {stw : S} (hw : stw.ce = ce) (e : Ext ρ stw H ρ' st' H') (c : Cells g ρ' H' st') : GrowD DK g ρ0 st0 H0 σ p ρ' st'.ce H' acc ds where
  ext := Ext.step_lev G.ext G.u h0 (e.with hw)
  u := e.same.trans G.u
  sim := G.sim.back (e.with hw) c
  at' := by rw [e.un p (by rw [G.u]; exact .inr rfl)]; exact G.at'
  ks := G.ks
  rp := G.rp.go (e.with hw)
theorem GrowD.push (G : GrowD DK g ρ0 st0 H0 σ p ρ ce H acc ds) (h0 : H0 p = none) (su : ∀ a, ρ0.U a → ∃ u, H0 a = some u) {k : κ} {v : V} {d : D} (r : Rp g (Vol ρ (st0.with ce)) H v d) : GrowD DK g ρ0 st0 H0 σ p ρ ce (upd H p (DK.ho (putK acc k v))) (putK acc k v) (putE ds k d) where
  ext := Ext.touch G.ext h0 su
  u := G.u
  sim := G.sim.touch (by rw [G.u]; exact .inr rfl) (DK.nt _)
  at' := upd_same
  ks := (putE_ok G.ks G.rp r).1
  rp := (putE_ok G.ks G.rp r).2.ext (keep_touch (by rw [G.u]; exact .inr rfl))
theorem GrowD.end (G : GrowD DK g ρ0 st0 H0 σ p ρ ce H acc ds) (h0 : H0 p = none) (su : ∀ a, ρ0.U a → ∃ u, H0 a = some u) : Ext ρ0 st0 H0 (ρ.lev ρ0.U) (st0.with ce) H ∧ Sim g (ρ.lev ρ0.U) σ H (st0.with ce) ∧ Rp g (Vol (ρ.lev ρ0.U) (st0.with ce)) H (.ref p) (DK.dd ds) := by
  have hU : ∀ a, ρ0.U a → ρ.U a := fun a h => by rw [G.u]; exact .inl h
  refine ⟨G.ext, G.sim.lev hU, DK.rp g _ H p acc ds G.at' ?_ G.ks (G.rp.ext fun a o h n => ⟨h, fun v => n (vol_lev hU v)⟩)⟩
  rintro (v | ⟨k, c, h1, hc, h2⟩)
  · obtain ⟨u, hu⟩ := su p v
    rw [h0] at hu; cases hu
  · exact G.sim.out k c p h1 hc h2 (by rw [G.u]; exact .inr rfl)
theorem GrowD.kp (Gr : GrowD DK g ρ0 st0 H0 σ p ρ ce H acc ds) (hp : H0 p = none) : ∀ a o, H0 a = some o → ¬ Vol ρ0 st0 a → H a = some o ∧ ¬ Vol ρ (st0.with ce) a := fun a o h n => by
  obtain ⟨h1, n1⟩ := Gr.ext.keep a o h n
  refine ⟨h1, fun v => ?_⟩
  rcases v with v | v
  · rw [Gr.u] at v
    rcases v with v | v
    · exact n1 (.inl v)
    · rw [v, hp] at h; cases h
  · exact n1 (.inr v)
end
end RE
set_option maxHeartbeats 2000000
namespace RE
open PySem PySem.Spec PyProof.Rows L2
def S.addC (st : S) (i : Nat) (c : Ce) : S := ⟨st.sl.set i (.rf st.ce.length), st.ce ++ [c]⟩
def S.setC (st : S) (k : Nat) (c : Ce) : S := ⟨st.sl, st.ce.set k c⟩
/-- a cell as a datum -/
def Ce.dat : Ce → Option D
  | .dead => none
  | .l ds => some (.lst ds)
  | .dK ds => some (.dK ds)
  | .dT ds => some (.dT ds)
  | _ => none
/-- from here on a datum, for whoever holds it -/
def S.frz (st : S) (k : Nat) (d : D) : S := ⟨st.sl.map fun s => match s with
  | .rf j => if j = k then .d d else s
  | _ => s, st.ce.set k .dead⟩
theorem Ce.alive_of {c : Ce} {d : D} (h : c.dat = some d) : c.alive = true := by cases c <;> first | rfl | cases h
def Rh.addC (ρ : Rh) (p : Addr) : Rh := ⟨ρ.ad ++ [p], ρ.U⟩
section
variable {g : G} {ρ ρ' : Rh} {σ σ' : L2.St} {H H' : Hp} {st st' : S} {p a : Addr} {o : HO} {i k : Nat} {c : Ce} {d : D}
theorem vol_addC {b : Addr} (hl : ρ.ad.length = st.ce.length) : Vol (ρ.addC p) (st.addC i c) b → Vol ρ st b ∨ b = p := by
  rintro (v | ⟨j, c', h1, h2, h3⟩)
  · exact .inl (.inl v)
  · have h1 : (st.ce ++ [c])[j]? = some c' := h1
    have h3 : (ρ.ad ++ [p])[j]? = some b := h3
    by_cases hj : j < st.ce.length
    · rw [List.getElem?_append_left hj] at h1
      rw [List.getElem?_append_left (by rw [hl]; exact hj)] at h3
      exact .inl (.inr ⟨j, c', h1, h2, h3⟩)
    · rw [List.getElem?_append_right (by rw [hl]; omega), hl] at h3
      cases e : j - st.ce.length with
      | zero => rw [e] at h3; exact .inr (Option.some.inj h3).symm
      | succ n => rw [e] at h3; simp at h3
theorem Ext.addC (s : Sim g ρ σ H st) (hp : H p = none) : Ext ρ st H (ρ.addC p) (st.addC i c) (upd H p o) where
  keep := fun b u h n => ⟨by rw [upd_ne (ne_of_none h hp)]; exact h, fun v => by
    rcases vol_addC s.clen v with v | v
    · exact n v
    · rw [v, hp] at h; cases h⟩
  pre := fun j b h => by
    obtain ⟨hj, _⟩ := List.getElem?_eq_some_iff.mp h
    show (ρ.ad ++ [p])[j]? = _
    rw [List.getElem?_append_left hj]; exact h
  same := rfl
  un := fun b h => by
    obtain ⟨u, hu⟩ := s.uo b h
    exact upd_ne (ne_of_none hu hp)
  more := fun b v => by
    rcases vol_addC s.clen v with v | v
    · exact .inl v
    · right; rw [v]; exact hp
  mono := fun b h => by
    by_cases e : b = p
    · rw [e]; exact hp
    · rw [upd_ne e] at h; exact h
theorem Sim.addC (s : Sim g ρ σ H st) (hp : H p = none) (hc : CeOk g (Vol (ρ.addC p) (st.addC i c)) (ρ.addC p).ad (upd H p o) p c) : Sim g (ρ.addC p) (σ.set i (some (.ref p))) (upd H p o) (st.addC i c) where
  uok := fun b h => by
    obtain ⟨u, hu, nt⟩ := s.uok b h
    exact ⟨u, by rw [upd_ne (ne_of_none hu hp)]; exact hu, nt⟩
  clen := by show (ρ.ad ++ [p]).length = (st.ce ++ [c]).length; rw [List.length_append, List.length_append, s.clen]; rfl
  cell := fun j c' b h1 h2 => by
    have h1 : (st.ce ++ [c])[j]? = some c' := h1
    have h2 : (ρ.ad ++ [p])[j]? = some b := h2
    by_cases hj : j < st.ce.length
    · rw [List.getElem?_append_left hj] at h1
      rw [List.getElem?_append_left (by rw [s.clen]; exact hj)] at h2
      by_cases ha : c'.alive = true
      · obtain ⟨u, hu⟩ := s.vol (a := b) (.inr ⟨j, c', h1, ha, h2⟩)
        exact (s.cell j c' b h1 h2).ext (upd_ne (ne_of_none hu hp)) (Ext.addC (c := c) (i := i) s hp).keep (Ext.addC (c := c) (i := i) (o := o) s hp).pre
      · cases c' <;> first | trivial | exact absurd rfl ha
    · rw [List.getElem?_append_right (by omega)] at h1
      rw [List.getElem?_append_right (by rw [s.clen]; omega), s.clen] at h2
      cases e : j - st.ce.length with
      | zero =>
        rw [e] at h1 h2
        cases Option.some.inj h1
        cases Option.some.inj h2
        exact hc
      | succ n => rw [e] at h1; simp at h1
  inj := fun j l c1 c2 b h1 h2 a1 a2 e1 e2 => by
    have h1 : (st.ce ++ [c])[j]? = some c1 := h1
    have h2 : (st.ce ++ [c])[l]? = some c2 := h2
    have e1 : (ρ.ad ++ [p])[j]? = some b := e1
    have e2 : (ρ.ad ++ [p])[l]? = some b := e2
    have split : ∀ (m : Nat) (c3 : Ce), (st.ce ++ [c])[m]? = some c3 → (ρ.ad ++ [p])[m]? = some b → (m < st.ce.length ∧ st.ce[m]? = some c3 ∧ ρ.ad[m]? = some b) ∨ (m = st.ce.length ∧ b = p) := fun m c3 q1 q2 => by
      by_cases hj : m < st.ce.length
      · rw [List.getElem?_append_left hj] at q1
        rw [List.getElem?_append_left (by rw [s.clen]; exact hj)] at q2
        exact .inl ⟨hj, q1, q2⟩
      · rw [List.getElem?_append_right (by omega)] at q1
        rw [List.getElem?_append_right (by rw [s.clen]; omega), s.clen] at q2
        cases e : m - st.ce.length with
        | zero => rw [e] at q2; exact .inr ⟨by omega, (Option.some.inj q2).symm⟩
        | succ n => rw [e] at q1; simp at q1
    rcases split j c1 h1 e1 with ⟨_, q1, q2⟩ | ⟨q1, q2⟩
    · rcases split l c2 h2 e2 with ⟨_, r1, r2⟩ | ⟨r1, r2⟩
      · exact s.inj j l c1 c2 b q1 r1 a1 a2 q2 r2
      · obtain ⟨u, hu⟩ := s.vol (a := b) (.inr ⟨j, c1, q1, a1, q2⟩)
        rw [r2, hp] at hu; cases hu
    · rcases split l c2 h2 e2 with ⟨_, r1, r2⟩ | ⟨r1, r2⟩
      · obtain ⟨u, hu⟩ := s.vol (a := b) (.inr ⟨l, c2, r1, a2, r2⟩)
        rw [q2, hp] at hu; cases hu
      · rw [q1, r1]
  out := fun j c' b h1 ha h2 v => by
    have v' : ρ.U b := v
    obtain ⟨u, hu⟩ := s.uo b v'
    rcases vol_addC (c := c) (i := i) s.clen (.inr ⟨j, c', h1, ha, h2⟩ : Vol (ρ.addC p) (st.addC i c) b) with q | q
    · have h1 : (st.ce ++ [c])[j]? = some c' := h1
      have h2 : (ρ.ad ++ [p])[j]? = some b := h2
      by_cases hj : j < st.ce.length
      · rw [List.getElem?_append_left hj] at h1
        rw [List.getElem?_append_left (by rw [s.clen]; exact hj)] at h2
        exact s.out j c' b h1 ha h2 v'
      · rw [List.getElem?_append_right (by rw [s.clen]; omega), s.clen] at h2
        cases e : j - st.ce.length with
        | zero =>
          rw [e] at h2
          cases Option.some.inj h2
          rw [hp] at hu; cases hu
        | succ n => rw [e] at h2; simp at h2
    · rw [q, hp] at hu; cases hu
  len := by show (σ.set i _).length = (st.sl.set i _).length; rw [List.length_set, List.length_set]; exact s.len
  slot := fun j sl v h1 h2 => by
    have h1 : (st.sl.set i (.rf st.ce.length))[j]? = some sl := h1
    rw [List.getElem?_set] at h1 h2
    by_cases e : i = j
    · rw [if_pos e] at h1 h2
      split at h1
      · split at h2
        · cases Option.some.inj h1
          cases Option.some.inj h2
          exact ⟨p, rfl, by show (ρ.ad ++ [p])[st.ce.length]? = _; rw [List.getElem?_append_right (by rw [s.clen]; exact Nat.le_refl _), s.clen, Nat.sub_self]; rfl⟩
        · cases h2
      · cases h1
    · rw [if_neg e] at h1 h2
      exact (s.slot j sl v h1 h2).ext (Ext.addC (c := c) (i := i) s hp).keep (Ext.addC (c := c) (i := i) (o := o) s hp).pre
/-- a cell that is written -/
theorem vol_setC {b : Addr} (hk : ∃ c0, st.ce[k]? = some c0 ∧ c0.alive = true) : Vol ρ (st.setC k c) b → Vol ρ st b := by
  rintro (v | ⟨j, c', h1, h2, h3⟩)
  · exact .inl v
  · have h1 : (st.ce.set k c)[j]? = some c' := h1
    rw [List.getElem?_set] at h1
    by_cases e : k = j
    · obtain ⟨c0, q1, q2⟩ := hk
      exact .inr ⟨j, c0, by rw [← e]; exact q1, q2, h3⟩
    · rw [if_neg e] at h1
      exact .inr ⟨j, c', h1, h2, h3⟩
theorem Ext.setC {c0 : Ce} (s : Sim g ρ σ H st) (hk : st.ce[k]? = some c0) (h0 : c0.alive = true) (ha : ρ.ad[k]? = some a) : Ext ρ st H ρ (st.setC k c) (upd H a o) where
  keep := fun b u h n => ⟨by rw [upd_ne (fun e => n (by rw [e]; exact .inr ⟨k, c0, hk, h0, ha⟩))]; exact h, fun v => n (vol_setC ⟨c0, hk, h0⟩ v)⟩
  pre := fun _ _ h => h
  same := rfl
  un := fun b h => upd_ne fun e => s.out k c0 a hk h0 ha (by rw [← e]; exact h)
  more := fun b v => .inl (vol_setC ⟨c0, hk, h0⟩ v)
  mono := fun b h => by
    by_cases e : b = a
    · rw [e, upd_same] at h; cases h
    · rw [upd_ne e] at h; exact h
theorem Sim.setC {c0 : Ce} (s : Sim g ρ σ H st) (hk : st.ce[k]? = some c0) (h0 : c0.alive = true) (ha : ρ.ad[k]? = some a) (hc1 : c.alive = true) (hc : CeOk g (Vol ρ (st.setC k c)) ρ.ad (upd H a o) a c) : Sim g ρ σ (upd H a o) (st.setC k c) where
  uok := fun b h => by
    by_cases e : b = a
    · rw [e]; exact hc.nt hc1
    · rw [upd_ne e]; exact s.uok b h
  clen := by show ρ.ad.length = (st.ce.set k c).length; rw [List.length_set]; exact s.clen
  cell := fun j c' b h1 h2 => by
    have h1 : (st.ce.set k c)[j]? = some c' := h1
    rw [List.getElem?_set] at h1
    by_cases e : k = j
    · rw [if_pos e] at h1
      split at h1
      · cases Option.some.inj h1
        rw [← e, ha] at h2
        cases Option.some.inj h2
        exact hc
      · cases h1
    · rw [if_neg e] at h1
      by_cases hal : c'.alive = true
      · refine (s.cell j c' b h1 h2).ext (upd_ne fun z => e ?_) (Ext.setC s hk h0 ha).keep
        exact s.inj k j c0 c' b hk h1 h0 hal (by rw [z]; exact ha) h2
      · cases c' <;> first | trivial | exact absurd rfl hal
  inj := fun j l c1 c2 b h1 h2 a1 a2 e1 e2 => by
    have old : ∀ (m : Nat) (c3 : Ce), (st.ce.set k c)[m]? = some c3 → c3.alive = true → ∃ c4, st.ce[m]? = some c4 ∧ c4.alive = true := fun m c3 q q' => by
      rw [List.getElem?_set] at q
      by_cases e : k = m
      · exact ⟨c0, by rw [← e]; exact hk, h0⟩
      · rw [if_neg e] at q; exact ⟨c3, q, q'⟩
    obtain ⟨c3, q1, q2⟩ := old j c1 h1 a1
    obtain ⟨c4, q3, q4⟩ := old l c2 h2 a2
    exact s.inj j l c3 c4 b q1 q3 q2 q4 e1 e2
  out := fun j c1 b h1 a1 e1 v => by
    have h1 : (st.ce.set k c)[j]? = some c1 := h1
    rw [List.getElem?_set] at h1
    by_cases e : k = j
    · exact s.out j c0 b (by rw [← e]; exact hk) h0 e1 v
    · rw [if_neg e] at h1; exact s.out j c1 b h1 a1 e1 v
  len := s.len
  slot := fun j sl v h1 h2 => (s.slot j sl v h1 h2).ext (Ext.setC s hk h0 ha).keep fun _ _ h => h
/-- a cell that is let go -/
theorem vol_frz {b : Addr} : Vol ρ (st.frz k d) b → Vol ρ st b := by
  rintro (v | ⟨j, c', h1, h2, h3⟩)
  · exact .inl v
  · have h1 : (st.ce.set k .dead)[j]? = some c' := h1
    rw [List.getElem?_set] at h1
    by_cases e : k = j
    · rw [if_pos e] at h1
      split at h1
      · cases Option.some.inj h1; cases h2
      · cases h1
    · rw [if_neg e] at h1
      exact .inr ⟨j, c', h1, h2, h3⟩
theorem Ext.frz : Ext ρ st H ρ (st.frz k d) H where
  keep := fun b u h n => ⟨h, fun v => n (vol_frz v)⟩
  pre := fun _ _ h => h
  same := rfl
  un := fun _ _ => rfl
  more := fun b v => .inl (vol_frz v)
  mono := fun _ h => h
theorem frz_rp {c0 : Ce} (s : Sim g ρ σ H st) (hk : st.ce[k]? = some c0) (hd : c0.dat = some d) (ha : ρ.ad[k]? = some a) : Rp g (Vol ρ (st.frz k d)) H (.ref a) d := by
  have al := Ce.alive_of hd
  have nv : ¬ Vol ρ (st.frz k d) a := by
    rintro (v | ⟨j, c', h1, h2, h3⟩)
    · exact s.out k c0 a hk al ha v
    · have h1 : (st.ce.set k .dead)[j]? = some c' := h1
      rw [List.getElem?_set] at h1
      by_cases e : k = j
      · rw [if_pos e] at h1
        split at h1
        · cases Option.some.inj h1; cases h2
        · cases h1
      · rw [if_neg e] at h1
        exact e (s.inj k j c0 c' a hk h1 al h2 ha h3)
  have kp : ∀ a o, H a = some o → ¬ Vol ρ st a → H a = some o ∧ ¬ Vol ρ (st.frz k d) a := fun b u h n => ⟨h, fun v => n (vol_frz v)⟩
  have q := s.cell k c0 a hk ha
  cases c0 with
  | dead => cases hd
  | l ds => cases Option.some.inj hd; obtain ⟨xs, e, r⟩ := q; exact Rp.lst' e nv (r.ext kp)
  | dK ds => cases Option.some.inj hd; obtain ⟨xs, e, q, r⟩ := q; exact dkK.rp g _ H a xs ds e nv q (r.ext kp)
  | dT ds => cases Option.some.inj hd; obtain ⟨xs, e, q, r⟩ := q; exact dkT.rp g _ H a xs ds e nv q (r.ext kp)
  | _ => cases hd
theorem Sim.frz {c0 : Ce} (s : Sim g ρ σ H st) (hk : st.ce[k]? = some c0) (hd : c0.dat = some d) : Sim g ρ σ H (st.frz k d) where
  uok := s.uok
  clen := by show ρ.ad.length = (st.ce.set k .dead).length; rw [List.length_set]; exact s.clen
  cell := fun j c' b h1 h2 => by
    have h1 : (st.ce.set k .dead)[j]? = some c' := h1
    rw [List.getElem?_set] at h1
    by_cases e : k = j
    · rw [if_pos e] at h1
      split at h1
      · cases Option.some.inj h1; trivial
      · cases h1
    · rw [if_neg e] at h1
      exact (s.cell j c' b h1 h2).ext rfl fun _ _ h n => ⟨h, fun v => n (vol_frz v)⟩
  inj := fun j l c1 c2 b h1 h2 a1 a2 e1 e2 => by
    have old : ∀ (m : Nat) (c3 : Ce), (st.ce.set k .dead)[m]? = some c3 → c3.alive = true → st.ce[m]? = some c3 := fun m c3 q q' => by
      rw [List.getElem?_set] at q
      by_cases e : k = m
      · rw [if_pos e] at q
        split at q
        · cases Option.some.inj q; cases q'
        · cases q
      · rw [if_neg e] at q; exact q
    exact s.inj j l c1 c2 b (old j c1 h1 a1) (old l c2 h2 a2) a1 a2 e1 e2
  out := fun j c1 b h1 a1 e1 v => by
    have h1 : (st.ce.set k .dead)[j]? = some c1 := h1
    rw [List.getElem?_set] at h1
    by_cases e : k = j
    · rw [if_pos e] at h1
      split at h1
      · cases Option.some.inj h1; cases a1
      · cases h1
    · rw [if_neg e] at h1; exact s.out j c1 b h1 a1 e1 v
  len := by show σ.length = (st.sl.map _).length; rw [List.length_map]; exact s.len
  slot := fun j sl v h1 h2 => by
    have h1 : (st.sl.map _)[j]? = some sl := h1
    rw [List.getElem?_map] at h1
    obtain ⟨sl0, q0, q1⟩ := Option.map_eq_some_iff.mp h1
    have q := s.slot j sl0 v q0 h2
    cases sl0 with
    | no => cases q1; trivial
    | d x => cases q1; obtain ⟨u, eu, r⟩ := q; exact ⟨u, eu, r.ext fun _ _ h n => ⟨h, fun v => n (vol_frz v)⟩⟩
    | rf m =>
      obtain ⟨b, eb, hb⟩ := q
      by_cases e : m = k
      · have q1 : (if m = k then Sl.d d else Sl.rf m) = sl := q1
        rw [if_pos e] at q1
        subst q1
        refine ⟨.ref b, eb, frz_rp s hk hd ?_⟩
        rw [← e]; exact hb
      · have q1 : (if m = k then Sl.d d else Sl.rf m) = sl := q1
        rw [if_neg e] at q1
        subst q1
        exact ⟨b, eb, hb⟩
theorem Sim.rf (s : Sim g ρ σ H st) (h : st.sl[i]? = some (.rf k)) : ∃ a, σ[i]? = some (some (.ref a)) ∧ ρ.ad[k]? = some a := by
  obtain ⟨hi, _⟩ := (List.getElem?_eq_some_iff).mp h
  have hs : i < σ.length := by rw [s.len]; exact hi
  obtain ⟨a, e, q⟩ := s.slot i _ _ h (List.getElem?_eq_getElem hs)
  exact ⟨a, by rw [List.getElem?_eq_getElem hs, e], q⟩
end
end RE
set_option maxHeartbeats 2000000
namespace RE
open PySem PySem.Spec PyProof.Rows L2
section
variable {X : Cx} {g : G} {ER : EK} {pos pos' : Pos}
def mNew (i : Nat) (c : Ce) : MS := fun st => .nx (st.addC i c)
theorem ps_mNewL {i : Nat} {x : Str} (hN : X.N.Nodup) (hi : X.N[i]? = some x) (hx : Loc X.env.scope x) (hs : swapsWith (.List [] pos) (some (.Name x pos')) pos.line X.env = pure false := by rfl) (hf : X.fn x = true ∨ X.env.scope.names.lookup x = some .local := by first | exact .inl rfl | exact .inr rfl) {spos : Pos} (hs : swapsWith (.List [] pos) (some (.Name x pos')) spos.line X.env = pure false := by rfl) :
    PS X (.Assign [.Name x pos'] (.List [] pos) spos) (tMS g ER (mNew i (.l []))) := by
  refine PSi (ps_set hN hi hx (pe_lst pa_nil) hs hf) fun E σ H h => ?_
  obtain ⟨ρ, st, s, h⟩ := h
  refine ⟨Nat.zero_le _, fun p hp => ?_⟩
  exact h (ρ.addC p) _ _ (Ext.addC s hp) (s.addC hp ⟨[], upd_same, RpA.nil⟩)
theorem ps_mNewK {i : Nat} {x : Str} (hN : X.N.Nodup) (hi : X.N[i]? = some x) (hx : Loc X.env.scope x) (hf : X.fn x = true ∨ X.env.scope.names.lookup x = some .local := by first | exact .inl rfl | exact .inr rfl) {spos : Pos} (hs : swapsWith (.Dict [] [] pos) (some (.Name x pos')) spos.line X.env = pure false := by rfl) :
    PS X (.Assign [.Name x pos'] (.Dict [] [] pos) spos) (tMS g ER (mNew i (.dK []))) := by
  refine PSi (ps_set hN hi hx pe_dnewK hs hf) fun E σ H h => ?_
  obtain ⟨ρ, st, s, h⟩ := h
  exact fun p hp => h (ρ.addC p) _ _ (Ext.addC s hp) (s.addC hp ⟨[], upd_same, rfl, RpA.nil⟩)
theorem ps_mNewT {i : Nat} {x : Str} (hN : X.N.Nodup) (hi : X.N[i]? = some x) (hx : Loc X.env.scope x) (hf : X.fn x = true ∨ X.env.scope.names.lookup x = some .local := by first | exact .inl rfl | exact .inr rfl) {spos : Pos} (hs : swapsWith (.Dict [] [] pos) (some (.Name x pos')) spos.line X.env = pure false := by rfl) :
    PS X (.Assign [.Name x pos'] (.Dict [] [] pos) spos) (tMS g ER (mNew i (.dT []))) := by
  refine PSi (ps_set hN hi hx pe_dnewT hs hf) fun E σ H h => ?_
  obtain ⟨ρ, st, s, h⟩ := h
  exact fun p hp => h (ρ.addC p) _ _ (Ext.addC s hp) (s.addC hp ⟨[], upd_same, rfl, RpA.nil⟩)
def mVarF (i : Nat) : M := fun st => match st.sl[i]? with
  | some (.d x) => .ok x st
  | some (.rf k) => match st.ce[k]? with
    | some c => match c.dat with
      | some d => .ok d (st.frz k d)
      | none => .no
    | none => .no
  | _ => .no
theorem pe_mVarF {i : Nat} {x : Str} (p : PE X (.Name x pos) (tVar i)) : PE X (.Name x pos) (tM g ER (mVarF i)) := by
  refine PEi p fun σ H Q h => ?_
  obtain ⟨ρ, st, s, h⟩ := h
  cases e : st.sl[i]? with
  | none => simp only [mVarF, e] at h; exact h.elim
  | some sl =>
    cases sl with
    | no => simp only [mVarF, e] at h; exact h.elim
    | d y =>
      simp only [mVarF, e] at h
      obtain ⟨hi, _⟩ := List.getElem?_eq_some_iff.mp e
      have hs : i < σ.length := by rw [s.len]; exact hi
      obtain ⟨u, hu, r⟩ := s.slot i _ _ e (List.getElem?_eq_getElem hs)
      exact ⟨u, by rw [List.getElem?_eq_getElem hs, hu], h ρ H Ext.refl s u r⟩
    | rf k =>
      cases e2 : st.ce[k]? with
      | none => simp only [mVarF, e, e2] at h; exact h.elim
      | some c =>
        cases e3 : c.dat with
        | none => simp only [mVarF, e, e2, e3] at h; exact h.elim
        | some d =>
          simp only [mVarF, e, e2, e3] at h
          obtain ⟨a, hu, ha⟩ := s.rf e
          exact ⟨_, hu, h ρ H Ext.frz (s.frz e2 e3) _ (frz_rp s e2 e3 ha)⟩
/-- a slot's datum, be it a cell's -/
def S.look (st : S) (i : Nat) : Option D := match st.sl[i]? with
  | some (.d x) => some x
  | some (.rf k) => match st.ce[k]? with
    | some c => c.dat
    | none => none
  | _ => none
theorem look_ok {ρ : Rh} {σ : L2.St} {H : Hp} {st : S} {i : Nat} {d : D} (s : Sim g ρ σ H st) (e : st.look i = some d) : ∃ u, σ[i]? = some (some u) ∧ Rp g (fun _ => False) H u d := by
  have any : ∀ {A : Addr → Prop} {v : V} {x : D}, Rp g A H v x → Rp g (fun _ => False) H v x := fun r => r.back fun a f => f.elim
  unfold S.look at e
  cases e1 : st.sl[i]? with
  | none => simp only [e1] at e; cases e
  | some sl =>
    cases sl with
    | no => simp only [e1] at e; cases e
    | d y =>
      simp only [e1] at e
      cases Option.some.inj e
      obtain ⟨hi, _⟩ := List.getElem?_eq_some_iff.mp e1
      have hs : i < σ.length := by rw [s.len]; exact hi
      obtain ⟨u, hu, r⟩ := s.slot i _ _ e1 (List.getElem?_eq_getElem hs)
      exact ⟨u, by rw [List.getElem?_eq_getElem hs, hu], any r⟩
    | rf k =>
      cases e2 : st.ce[k]? with
      | none => simp only [e1, e2] at e; cases e
      | some c =>
        simp only [e1, e2] at e
        obtain ⟨a, hu, ha⟩ := s.rf e1
        exact ⟨_, hu, any (frz_rp s e2 e ha)⟩
def mInB (neg : Bool) (ma : M) (i : Nat) : M := fun st => bindO (ma st) fun a st1 => match st1.look i with
  | some d => match inD neg a d with
    | some (.bl b) => .ok (.bl b) st1
    | _ => .no
  | none => .no
theorem in_b {A : Addr → Prop} {H : Hp} {x y : V} {dx dy : D} {neg b : Bool} {Q : VK} (e : inD neg dx dy = some (.bl b)) (rx : Rp g A H x dx) (ry : Rp g A H y dy) (k : Q (.bl b) H) : rInP g.K neg x y H Q ∨ rInDc neg x y H Q := by
  unfold inD at e
  cases e1 : seqD dy with
  | some ds =>
    simp only [e1] at e
    obtain ⟨a, ys, rfl, hy, rs⟩ := ry.seq e1
    unfold memD at e
    cases e2 : toP 20 dx with
    | none => simp only [e2] at e; cases e
    | some p =>
      cases e3 : mapO (toP 20) ds with
      | none => simp only [e2, e3] at e; cases e
      | some ps =>
        simp only [e2, e3] at e
        obtain ⟨a1, a2, a3⟩ := toP_ok 20 dx p x e2 rx
        obtain ⟨b1, b2, b3⟩ := toP_all e3 rs
        have eb := Option.some.inj e
        refine .inl ⟨p, ps, a1, ?_, a2, b2, by omega, by omega, ?_⟩
        · rcases hy with hy | hy
          · exact .inl (.lst hy b1)
          · exact .inr (.tup hy b1)
        · injection eb with eb; rw [← eb] at k; exact k
  | none =>
    simp only [e1] at e
    cases e2 : getD dy dx with
    | none => simp only [e2] at e; cases e
    | some o =>
      simp only [e2] at e
      obtain ⟨a, ov, rfl, gd, h⟩ := getD_ok ry rx e2
      have eb := Option.some.inj e
      refine .inr ⟨a, ov, rfl, gd, ?_⟩
      have eo : ov.isSome = o.isSome := by
        rcases h with ⟨h1, h2⟩ | ⟨_, _, h1, h2, _⟩ <;> rw [h1, h2] <;> rfl
      rw [eo]
      injection eb with eb; rw [← eb] at k; exact k
theorem tM_inB {neg : Bool} {ma : M} {i : Nat} {σ : L2.St} {H : Hp} {Q : VK} (h : tM g ER (mInB neg ma i) σ H Q) : tOp (fun x y H Q => rInP g.K neg x y H Q ∨ rInDc neg x y H Q) (tM g ER ma) (tVar i) σ H Q := by
  obtain ⟨ρ, st, s, h⟩ := h
  refine ⟨ρ, st, s, (OutC.bind h).mono fun a st1 ρ1 H1 _ h1 s1 x rx => ?_⟩
  cases e : st1.look i with
  | none => simp only [e] at h1; exact h1.elim
  | some d =>
    simp only [e] at h1
    obtain ⟨u, hu, r⟩ := look_ok s1 e
    cases e2 : inD neg a d with
    | none => simp only [e2] at h1; exact h1.elim
    | some z =>
      cases z with
      | bl b =>
        simp only [e2] at h1
        exact ⟨u, hu, in_b e2 (rx.back fun a f => f.elim) r (h1 ρ1 H1 Ext.refl s1 _ (.bl b))⟩
      | _ => simp only [e2] at h1; exact h1.elim
theorem pe_mInB {neg : Bool} {op : CmpOp} {a : Expr} {x : Str} {p : Pos} {ma : M} {i : Nat} (ho : OpR X (compareOp op) (fun x y H Q => rInP g.K neg x y H Q ∨ rInDc neg x y H Q)) (ha : PE X a (tM g ER ma)) (hx : PE X (.Name x p) (tVar i)) (hm : behindInMarks op (.Name x p) = false) : PE X (.Compare a [op] [.Name x p] pos) (tM g ER (mInB neg ma i)) :=
  PEi (pe_cmpR ho ha hx hm) fun _ _ _ h => tM_inB h
theorem pt_mInB {neg : Bool} {op : CmpOp} {a : Expr} {x : Str} {p : Pos} {ma : M} {i : Nat} (ho : OpR X (compareOp op) (fun x y H Q => rInP g.K neg x y H Q ∨ rInDc neg x y H Q)) (ha : PE X a (tM g ER ma)) (hx : PE X (.Name x p) (tVar i)) (hm : behindInMarks op (.Name x p) = false) : PT X (.Compare a [op] [.Name x p] pos) (tMT g ER (mB (mInB neg ma i))) := by
  refine PTi (pt_cmpR ho ha hx hm) fun σ H Q h => ?_
  obtain ⟨ρ, st, s, h⟩ := tMT_B h
  exact tM_inB ⟨ρ, st, s, h⟩
/-- the cell of a slot -/
def S.cellOf (st : S) (i : Nat) : Option Nat := match st.sl[i]? with
  | some (.rf k) => some k
  | _ => none
theorem cellOf_ok {st : S} {i k : Nat} (e : st.cellOf i = some k) : st.sl[i]? = some (.rf k) := by
  unfold S.cellOf at e
  split at e
  · rename_i j h; cases Option.some.inj e; exact h
  · cases e
def Ce.isL : Ce → Bool
  | .l _ => true
  | _ => false
def S.isL (st : S) (k : Nat) : Bool := match st.ce[k]? with
  | some c => c.isL
  | none => false
theorem isL_ok {st : S} {k : Nat} (h : st.isL k = true) : ∃ ds, st.ce[k]? = some (.l ds) := by
  unfold S.isL at h
  cases e : st.ce[k]? with
  | none => (rw [e] at h; cases h)
  | some c =>
    rw [e] at h
    cases c with
    | l ds => exact ⟨ds, rfl⟩
    | _ => cases h
theorem cell_l {ρ : Rh} {σ : L2.St} {H : Hp} {st : S} {k : Nat} {a : Addr} (s : Sim g ρ σ H st) (h : st.isL k = true) (ha : ρ.ad[k]? = some a) : ∃ ds xs, st.ce[k]? = some (.l ds) ∧ H a = some (.lst xs) ∧ RpA g (Vol ρ st) H xs ds := by
  obtain ⟨ds, e⟩ := isL_ok h
  obtain ⟨xs, q1, q2⟩ := s.cell k _ a e ha
  exact ⟨ds, xs, e, q1, q2⟩
def mApp (i : Nat) (m : M) : M := fun st => match st.cellOf i with
  | some k => if st.isL k = true then bindO (m st) fun d st1 => match st1.ce[k]? with
    | some (.l ds) => if ds.length ≤ lim then .ok .non (st1.setC k (.l (ds ++ [d]))) else .no
    | _ => .no
    else .no
  | none => .no
theorem pe_mApp {o e : Expr} {i : Nat} {m : M} {apos cpos : Pos} (hk : X.K = g.K) (ho : PE X o (tVar i)) (he : PE X e (tM g ER m))
    (hbase : attributeBase o "append" X.env (eval o X.env) = eval o X.env := by rfl) (hfew : ((backTo cpos (starEach [e] X.env)).all (fun x => !x.1) && (backToKw cpos (keywordEach [] X.env)).all (fun x => x.1.isSome)
      && decide ([e].length + ([] : List Keyword).length + (if ([] : List Keyword).isEmpty then 0 else 1) < 30)) = true := by rfl)
    (hline : (apos.endLine == cpos.line) = true := by rfl) (hs : starEach [e] X.env = [(false, eval e X.env)] := by rfl) (hplain : (backTo cpos (starEach ([] : List Expr) X.env)).any (·.1) = false := by rfl) :
    PE X (.Call (.Attribute o "append" apos) [e] [] cpos) (tM g ER (mApp i m)) := by
  refine PEi (pe_bm PySem.F.plainAttrs_list PySem.F.slot_list_append PySem.F.type_list_append mt_append ho (pa_cons he pa_nil hs) hbase hfew hline hs hplain) fun σ H Q h => ?_
  obtain ⟨ρ, st, s, h⟩ := h
  cases e1 : st.cellOf i with
  | none => simp only [mApp, e1] at h; exact h.elim
  | some k =>
    by_cases e2 : st.isL k = true
    case neg => simp only [mApp, e1, if_neg e2] at h; exact h.elim
    simp only [mApp, e1, if_pos e2] at h
    obtain ⟨a, hu, ha⟩ := s.rf (cellOf_ok e1)
    obtain ⟨ds0, xs0, _, q1, _⟩ := cell_l s e2 ha
    refine ⟨_, hu, .inl ⟨rfl, xs0, SqL.of q1⟩, ρ, st, s, (OutC.bind h).mono fun d st1 ρ1 H1 x1 h1 s1 v rv => ?_⟩
    have ha1 := x1.pre k a ha
    cases e3 : st1.ce[k]? with
    | none => simp only [e3] at h1; exact h1.elim
    | some c =>
      cases c with
      | l ds =>
        simp only [e3] at h1
        by_cases hz : ds.length ≤ lim
        case neg => rw [if_neg hz] at h1; exact h1.elim
        rw [if_pos hz] at h1
        obtain ⟨xs, q2, q3⟩ := s1.cell k _ a e3 ha1
        refine ⟨a, xs, v, rfl, rfl, q2, Nat.lt_of_le_of_lt (Nat.le_trans (Nat.le_of_eq q3.1) hz) (by decide), ?_⟩
        have xe := Ext.setC (c := .l (ds ++ [d])) (o := .lst (xs ++ [v])) s1 e3 rfl ha1
        exact h1 ρ1 _ xe (s1.setC e3 rfl ha1 rfl ⟨xs ++ [v], upd_same, (q3.append (RpA.cons rv RpA.nil)).ext xe.keep⟩) _ .non
      | _ => simp only [e3] at h1; exact h1.elim
def mPop (i : Nat) : M := fun st => match st.cellOf i with
  | some k => match st.ce[k]? with
    | some (.l ds) => match ds[ds.length - 1]? with
      | some d => .ok d (st.setC k (.l ds.dropLast))
      | none => .no
    | _ => .no
  | none => .no
theorem RpA.dropLast {A : Addr → Prop} {H : Hp} {xs : List V} {ds : List D} (h : RpA g A H xs ds) : RpA g A H xs.dropLast ds.dropLast := by
  rw [List.dropLast_eq_take, List.dropLast_eq_take, h.1]
  exact h.take _
theorem pe_mPop {o : Expr} {i : Nat} {apos cpos : Pos} (hk : X.K = g.K) (ho : PE X o (tVar i)) (hbase : attributeBase o "pop" X.env (eval o X.env) = eval o X.env := by rfl) (hline : (apos.endLine == cpos.line) = true := by rfl) :
    PE X (.Call (.Attribute o "pop" apos) [] [] cpos) (tM g ER (mPop i)) := by
  refine PEi (pe_bm0 PySem.F.plainAttrs_list PySem.F.slot_list_pop PySem.F.type_list_pop mt_pop ho hbase hline) fun σ H Q h => ?_
  obtain ⟨ρ, st, s, h⟩ := h
  cases e1 : st.cellOf i with
  | none => simp only [mPop, e1] at h; exact h.elim
  | some k =>
    obtain ⟨a, hu, ha⟩ := s.rf (cellOf_ok e1)
    cases e3 : st.ce[k]? with
    | none => simp only [mPop, e1, e3] at h; exact h.elim
    | some c =>
      cases c with
      | l ds =>
        cases e4 : ds[ds.length - 1]? with
        | none => simp only [mPop, e1, e3, e4] at h; exact h.elim
        | some d =>
          simp only [mPop, e1, e3, e4] at h
          obtain ⟨xs, q2, q3⟩ := s.cell k _ a e3 ha
          obtain ⟨y, hy, ry⟩ := q3.get e4
          refine ⟨_, hu, .inl ⟨rfl, xs, SqL.of q2⟩, a, xs, y, rfl, rfl, q2, by rw [q3.1]; exact hy, ?_⟩
          have xe := Ext.setC (c := .l ds.dropLast) (o := .lst xs.dropLast) s e3 rfl ha
          exact h ρ _ xe (s.setC e3 rfl ha rfl ⟨_, upd_same, q3.dropLast.ext xe.keep⟩) _ (ry.go xe)
      | _ => simp only [mPop, e1, e3] at h; exact h.elim
/-- x[k] = v, x a dict's cell -/
def mPut (i : Nat) (mk mv : M) : MS := fun st => bindS (mv st) fun z st1 => match st1.cellOf i with
  | some k => bindS (mk st1) fun y st2 => match st2.ce[k]? with
    | some (.dT ds) => match keysD y with
      | some q => if ds.length ≤ lim then .nx (st2.setC k (.dT (putE ds q z))) else .no
      | none => .no
    | some (.dK ds) => match keyD y with
      | some q => if ds.length ≤ lim then .nx (st2.setC k (.dK (putE ds q z))) else .no
      | none => .no
    | _ => .no
  | none => .no
theorem ps_mPut {o ke ve : Expr} {i : Nat} {mk mv : M} {tp : Pos} (hu : X.A.units + 1 < cLine) (ho : PE X o (tVar i)) (hk : PE X ke (tM g ER mk)) (hv : PE X ve (tM g ER mv)) (hs : swapsWith ve (some (.Subscript o ke tp)) pos.line X.env = pure false := by rfl) :
    PS X (.Assign [.Subscript o ke tp] ve pos) (tMS g ER (mPut i mk mv)) := by
  refine PSi (ps_dput hu ho hk hv hs) fun E σ H h => ?_
  obtain ⟨ρ, st, s, h⟩ := h
  refine ⟨ρ, st, s, (OutS.bind h).mono fun z st1 ρ1 H1 _ h1 s1 v rv => ?_⟩
  cases e1 : st1.cellOf i with
  | none => simp only [e1] at h1; exact h1.elim
  | some k =>
    simp only [e1] at h1
    obtain ⟨a, hu, ha⟩ := s1.rf (cellOf_ok e1)
    refine ⟨_, hu, ρ1, st1, s1, (OutS.bind h1).mono fun y st2 ρ2 H2 x2 h2 s2 u ru => ?_⟩
    have ha2 := x2.pre k a ha
    have rv2 := rv.go x2
    have lz : ∀ {n m : Nat}, n = m → m ≤ lim → n < sizeLine := fun {n m} e h => Nat.lt_of_le_of_lt (Nat.le_trans (Nat.le_of_eq e) h) (by decide)
    cases e3 : st2.ce[k]? with
    | none => simp only [e3] at h2; exact h2.elim
    | some c =>
      cases c with
      | dT ds =>
        cases e4 : keysD y with
        | none => simp only [e3, e4] at h2; exact h2.elim
        | some q =>
          simp only [e3, e4] at h2
          by_cases hz : ds.length ≤ lim
          case neg => rw [if_neg hz] at h2; exact h2.elim
          rw [if_pos hz] at h2
          obtain ⟨xs, q2, qk, q3⟩ := s2.cell k _ a e3 ha2
          have hl : xs.length = ds.length := by have := congrArg List.length qk; simpa using this
          refine ⟨a, _, rfl, dkT.put g _ H2 u v y q xs a ru e4 q2 (lz hl hz), ?_⟩
          obtain ⟨p1, p2⟩ := putE_ok (k := q) qk q3 rv2
          have xe := Ext.setC (c := .dT (putE ds q z)) (o := .dT (putK xs q v)) s2 e3 rfl ha2
          exact h2 ρ2 σ _ xe (s2.setC e3 rfl ha2 rfl ⟨_, upd_same, p1, p2.ext xe.keep⟩)
      | dK ds =>
        cases e4 : keyD y with
        | none => simp only [e3, e4] at h2; exact h2.elim
        | some q =>
          simp only [e3, e4] at h2
          by_cases hz : ds.length ≤ lim
          case neg => rw [if_neg hz] at h2; exact h2.elim
          rw [if_pos hz] at h2
          obtain ⟨xs, q2, qk, q3⟩ := s2.cell k _ a e3 ha2
          have hl : xs.length = ds.length := by have := congrArg List.length qk; simpa using this
          refine ⟨a, _, rfl, dkK.put g _ H2 u v y q xs a ru e4 q2 (lz hl hz), ?_⟩
          obtain ⟨p1, p2⟩ := putE_ok (k := q) qk q3 rv2
          have xe := Ext.setC (c := .dK (putE ds q z)) (o := .dK (putK xs q v)) s2 e3 rfl ha2
          exact h2 ρ2 σ _ xe (s2.setC e3 rfl ha2 rfl ⟨_, upd_same, p1, p2.ext xe.keep⟩)
      | _ => simp only [e3] at h2; exact h2.elim
def whileS (t : MT) (body : MS) : Nat → S → SO
  | 0, _ => .no
  | n + 1, st => match t st with
    | .ok true st1 => match body st1 with
      | .nx st2 => whileS t body n st2
      | .ct st2 => whileS t body n st2
      | .bk st2 => .nx st2
      | o => o
    | .ok false st1 => .nx st1
    | .er c vs st1 => .er c vs st1
    | .no => .no
theorem ps_mWhile {c : Expr} {body : List Stmt} {t : MT} {mb : MS} (n : Nat) (hp : PassesOwn (model X.prog X.w) X.A X.env X.xe) (hc : PT X c (tMT g ER t)) (hb : PSs X body (tMS g ER mb)) : PS X (.While c body [] pos) (tMS g ER (whileS t mb n)) := by
  refine PSi (ps_while hp hc hb) fun E σ H h => ?_
  obtain ⟨ρ0, st0, s0, h⟩ := h
  refine ⟨fun m σ' H' => ∃ ρ' st', Ext ρ0 st0 H ρ' st' H' ∧ Sim g ρ' σ' H' st' ∧ OutS g ER ρ' st' H' (whileS t mb m st') E, ⟨n, ρ0, st0, Ext.refl, s0, h⟩, ?_⟩
  rintro m σ1 H1 ⟨ρ1, st1, x1, s1, h1⟩
  refine ⟨ρ1, st1, s1, ?_⟩
  cases m with
  | zero => exact h1.elim
  | succ m =>
    unfold whileS at h1
    cases e1 : t st1 with
    | no => simp only [e1] at h1; exact h1.elim
    | er c vs st2 => simp only [e1] at h1; exact h1
    | ok b st2 =>
      cases b with
      | false =>
        simp only [e1] at h1
        intro ρ2 H2 x2 s2
        rw [if_neg (by decide)]
        exact h1 ρ2 σ1 H2 x2 s2
      | true =>
        simp only [e1] at h1
        intro ρ2 H2 x2 s2
        rw [if_pos rfl]
        refine ⟨fun σ' H' => ∃ ρ' st', Ext ρ0 st0 H ρ' st' H' ∧ Sim g ρ' σ' H' st' ∧ OutS g ER ρ' st' H' (whileS t mb m st') E, fun σ' H' ⟨ρ', st', a, b, c⟩ => ⟨m, by omega, ρ', st', a, b, c⟩, ρ2, st2, s2, ?_⟩
        cases e2 : mb st2 with
        | nx st4 => simp only [e2] at h1; exact fun ρ4 σ4 H4 x4 s4 => ⟨ρ4, st4, (x1.trans x2).trans x4, s4, OutS.later h1 (x2.trans x4)⟩
        | ct st4 => simp only [e2] at h1; exact fun ρ4 σ4 H4 x4 s4 => ⟨ρ4, st4, (x1.trans x2).trans x4, s4, OutS.later h1 (x2.trans x4)⟩
        | bk st4 => simp only [e2] at h1; exact fun ρ4 σ4 H4 x4 s4 => h1 ρ4 σ4 H4 (x2.trans x4) s4
        | rt d st4 => simp only [e2] at h1; exact fun ρ4 σ4 H4 v x4 s4 r => h1 ρ4 σ4 H4 v (x2.trans x4) s4 r
        | er c vs st4 => simp only [e2] at h1; exact fun ρ4 H4 x4 => h1 ρ4 H4 (x2.trans x4)
        | no => simp only [e2] at h1; exact h1.elim
end
end RE
set_option maxHeartbeats 2000000
namespace RE
open PySem PySem.Spec PyProof.Rows L2
abbrev MR := S → O (List Sl)
def ArgsOk (g : G) (ρ : Rh) (st : S) (H : Hp) (vs : List V) (as : List Sl) : Prop := vs.length = as.length ∧ ∀ (i : Nat) v s, vs[i]? = some v → as[i]? = some s → SlOk g (Vol ρ st) ρ H (some v) s
section
variable {g : G} {ER : EK} {ρ ρ' : Rh} {st st' : S} {H H' : Hp} {σ : L2.St}
def tMR (g : G) (ER : EK) (m : MR) : TA := fun σ H Q => ∃ ρ st, Sim g ρ σ H st ∧ OutC ER ρ st H (m st) fun as st' ρ' H' => Sim g ρ' σ H' st' → ∀ vs, ArgsOk g ρ' st' H' vs as → Q vs H'
theorem ArgsOk.nil : ArgsOk g ρ st H [] [] := ⟨rfl, fun i v s h => by simp at h⟩
theorem ArgsOk.cons {v : V} {vs : List V} {s : Sl} {as : List Sl} (h : SlOk g (Vol ρ st) ρ H (some v) s) (t : ArgsOk g ρ st H vs as) : ArgsOk g ρ st H (v :: vs) (s :: as) :=
  ⟨by simp [t.1], fun i x y hx hy => by
    cases i with
    | zero =>
      have e1 : v = x := by simpa using hx
      have e2 : s = y := by simpa using hy
      subst e1; subst e2; exact h
    | succ i => exact t.2 i x y (by simpa using hx) (by simpa using hy)⟩
theorem ArgsOk.data {vs : List V} {ds : List D} (r : RpA g (Vol ρ st) H vs ds) : ArgsOk g ρ st H vs (ds.map .d) :=
  ⟨by rw [List.length_map]; exact r.1, fun i v s h1 h2 => by
    rw [List.getElem?_map] at h2
    obtain ⟨d, hd, rfl⟩ := Option.map_eq_some_iff.mp h2
    exact ⟨v, rfl, r.2 i v d h1 hd⟩⟩
theorem ArgsOk.append {vs ws : List V} {as bs : List Sl} (h : ArgsOk g ρ st H vs as) (t : ArgsOk g ρ st H ws bs) : ArgsOk g ρ st H (vs ++ ws) (as ++ bs) :=
  ⟨by rw [List.length_append, List.length_append, h.1, t.1], fun i v s h1 h2 => by
    by_cases hi : i < vs.length
    · rw [List.getElem?_append_left hi] at h1
      rw [List.getElem?_append_left (by rw [← h.1]; exact hi)] at h2
      exact h.2 i v s h1 h2
    · rw [List.getElem?_append_right (by omega)] at h1
      rw [List.getElem?_append_right (by rw [← h.1]; omega), ← h.1] at h2
      exact t.2 _ v s h1 h2⟩
def rNil : MR := fun st => .ok [] st
def rDat (m : M) (ms : MR) : MR := fun st => bindO (m st) fun d st1 => bindO (ms st1) fun as st2 => .ok (.d d :: as) st2
/-- a name whose cell is handed on, or its datum -/
def rRef (i : Nat) (ms : MR) : MR := fun st => match st.sl[i]? with
  | some .no => .no
  | some s => bindO (ms st) fun as st2 => .ok (s :: as) st2
  | none => .no
theorem pa_rNil {X : Cx} : PA X [] (tMR g ER rNil) := PAi pa_nil fun σ H Q h => by
  obtain ⟨ρ, st, s, h⟩ := h
  exact h ρ H Ext.refl s [] ArgsOk.nil
theorem pa_rDat {X : Cx} {e : Expr} {es : List Expr} {m : M} {ms : MR} (ha : PE X e (tM g ER m)) (hr : PA X es (tMR g ER ms)) (hs : starEach (e :: es) X.env = (false, eval e X.env) :: starEach es X.env := by rfl) : PA X (e :: es) (tMR g ER (rDat m ms)) := by
  refine PAi (pa_cons ha hr hs) fun σ H Q h => ?_
  obtain ⟨ρ, st, s, h⟩ := h
  refine ⟨ρ, st, s, (OutC.bind h).mono fun d st1 ρ1 H1 _ h1 s1 x rx => ?_⟩
  refine ⟨ρ1, st1, s1, (OutC.bind h1).mono fun ds st2 ρ2 H2 e2 h2 s2 xs rs => ?_⟩
  exact h2 ρ2 H2 Ext.refl s2 (x :: xs) (ArgsOk.cons ⟨x, rfl, rx.go e2⟩ rs)
theorem pa_rRef {X : Cx} {x : Str} {p : Pos} {i : Nat} {es : List Expr} {ms : MR} (hx : PE X (.Name x p) (tVar i)) (hr : PA X es (tMR g ER ms)) (hs : starEach (.Name x p :: es) X.env = (false, eval (.Name x p) X.env) :: starEach es X.env := by rfl) : PA X (.Name x p :: es) (tMR g ER (rRef i ms)) := by
  refine PAi (pa_cons hx hr hs) fun σ H Q h => ?_
  obtain ⟨ρ, st, s, h⟩ := h
  cases e : st.sl[i]? with
  | none => simp only [rRef, e] at h; exact h.elim
  | some sl =>
    obtain ⟨hi, _⟩ := List.getElem?_eq_some_iff.mp e
    have hs : i < σ.length := by rw [s.len]; exact hi
    have q := s.slot i _ _ e (List.getElem?_eq_getElem hs)
    have main : ∀ v, σ[i]? = some (some v) → SlOk g (Vol ρ st) ρ H (some v) sl → OutC ER ρ st H (bindO (ms st) fun as st2 => .ok (sl :: as) st2) (fun as st' ρ' H' => Sim g ρ' σ H' st' → ∀ vs, ArgsOk g ρ' st' H' vs as → Q vs H') → ∃ v, σ[i]? = some (some v) ∧ tMR g ER ms σ H fun vs H1 => Q (v :: vs) H1 := fun v hv ok h => by
      refine ⟨v, hv, ρ, st, s, (OutC.bind h).mono fun as st2 ρ2 H2 e2 h2 s2 xs rs => ?_⟩
      exact h2 ρ2 H2 Ext.refl s2 (v :: xs) (ArgsOk.cons (ok.ext e2.keep e2.pre) rs)
    cases sl with
    | no => simp only [rRef, e] at h; exact h.elim
    | d y =>
      simp only [rRef, e] at h
      obtain ⟨u, hu, r⟩ := q
      exact main u (by rw [List.getElem?_eq_getElem hs, hu]) ⟨u, rfl, r⟩ h
    | rf k =>
      simp only [rRef, e] at h
      obtain ⟨a, hu, r⟩ := q
      exact main (.ref a) (by rw [List.getElem?_eq_getElem hs, hu]) ⟨a, rfl, r⟩ h
end
def Ce.flat : Ce → Bool
  | .rK _ => false
  | .rT _ => false
  | .o _ _ => false
  | _ => true
theorem CeOk.flat {g : G} {A : Addr → Prop} {ad ad' : List Addr} {H : Hp} {a : Addr} {c : Ce} (f : c.flat = true) (h : CeOk g A ad H a c) : CeOk g A ad' H a c := by
  cases c with
  | rK _ => cases f
  | rT _ => cases f
  | o _ _ => cases f
  | _ => exact h
/-- the one cell that is handed on -/
def refOf : List Sl → Option Nat
  | [] => none
  | .rf k :: _ => some k
  | _ :: as => refOf as
def okRef (k : Nat) : List Sl → Bool
  | [] => true
  | .rf j :: as => decide (j = k) && okRef k as
  | _ :: as => okRef k as
def toZero : List Sl → List Sl
  | [] => []
  | .rf _ :: as => .rf 0 :: toZero as
  | s :: as => s :: toZero as
theorem toZero_get (k : Nat) : ∀ (as : List Sl) (i : Nat) (s : Sl), okRef k as = true → (toZero as)[i]? = some s → (s = .rf 0 ∧ as[i]? = some (.rf k)) ∨ ((∀ j, s ≠ .rf j) ∧ as[i]? = some s)
  | [], i, s, _, h => by simp [toZero] at h
  | .rf j :: as, 0, s, h, e => by
    cases Option.some.inj (show some (Sl.rf 0) = some s from e)
    have h' : (decide (j = k) && okRef k as) = true := h
    have : j = k := of_decide_eq_true (Bool.and_eq_true_iff.mp h').1
    exact .inl ⟨rfl, by rw [this]; rfl⟩
  | .no :: as, 0, s, h, e => by
    cases Option.some.inj (show some Sl.no = some s from e)
    exact .inr ⟨fun _ z => (nomatch z), rfl⟩
  | .d x :: as, 0, s, h, e => by
    cases Option.some.inj (show some (Sl.d x) = some s from e)
    exact .inr ⟨fun _ z => (nomatch z), rfl⟩
  | .rf j :: as, i + 1, s, h, e => by
    have h' : (decide (j = k) && okRef k as) = true := h
    exact toZero_get k as i s (Bool.and_eq_true_iff.mp h').2 e
  | .no :: as, i + 1, s, h, e => toZero_get k as i s h e
  | .d x :: as, i + 1, s, h, e => toZero_get k as i s h e
theorem toZero_len : ∀ as : List Sl, (toZero as).length = as.length
  | [] => rfl
  | .rf j :: as => by show (toZero as).length + 1 = as.length + 1; rw [toZero_len]
  | .no :: as => by show (toZero as).length + 1 = as.length + 1; rw [toZero_len]
  | .d x :: as => by show (toZero as).length + 1 = as.length + 1; rw [toZero_len]
/-- the caller's state behind the call -/
def S.gets (st : S) (k : Nat) (ce : List Ce) : Option S := match ce[0]? with
  | some c => if (c.alive && c.flat) = true then some (st.setC k c) else none
  | none => none
def runR (ms : MS) (n : Nat) (as : List Sl) (st : S) : O D := match refOf as with
  | none => .no
  | some k => match st.ce[k]? with
    | none => .no
    | some c => if ((c.alive && c.flat) && okRef k as) = true then (match ms (S.start (toZero as) n [c]) with
      | .rt d st' => (match st.gets k st'.ce with
        | some st2 => .ok d st2
        | none => .no)
      | .nx st' => (match st.gets k st'.ce with
        | some st2 => .ok .non st2
        | none => .no)
      | .er e vs st' => (match st.gets k st'.ce with
        | some st2 => .er e vs st2
        | none => .no)
      | _ => .no) else .no
def mCallR (ms : MS) (n : Nat) (dfl : List D) (mr : MR) : M := fun st => bindO (mr st) fun as st1 => runR ms n (as ++ dfl.map .d) st1
section
variable {g : G} {ρ ρ' : Rh} {σ : L2.St} {H H' : Hp} {st st' st0 : S} {k : Nat} {c : Ce} {a : Addr}
/-- the callee's frame -/
theorem sim_argsR {vs : List V} {as : List Sl} (s : Sim g ρ σ H st) (r : ArgsOk g ρ st H vs as) (hc : st.ce[k]? = some c) (al : c.alive = true) (fl : c.flat = true) (hk : okRef k as = true) (ha : ρ.ad[k]? = some a) :
    Sim g ⟨[a], fun b => Vol ρ st b ∧ b ≠ a⟩ (vs.map some) H ⟨toZero as, [c]⟩ := by
  have va : Vol ρ st a := .inr ⟨k, c, hc, al, ha⟩
  have one : ∀ {j : Nat} {c' : Ce}, [c][j]? = some c' → j = 0 ∧ c' = c := fun {j c'} h => by
    cases j with
    | zero => exact ⟨rfl, (Option.some.inj h).symm⟩
    | succ j => simp at h
  have oneA : ∀ {b : Addr}, [a][0]? = some b → b = a := fun h => (Option.some.inj h).symm
  have sub : ∀ b, Vol ⟨[a], fun b => Vol ρ st b ∧ b ≠ a⟩ ⟨toZero as, [c]⟩ b → Vol ρ st b := fun b v => by
    rcases v with v | ⟨j, c', h1, h2, h3⟩
    · exact v.1
    · obtain ⟨rfl, rfl⟩ := one h1
      rw [oneA h3]; exact va
  have kp : ∀ b o, H b = some o → ¬ Vol ρ st b → H b = some o ∧ ¬ Vol ⟨[a], fun b => Vol ρ st b ∧ b ≠ a⟩ ⟨toZero as, [c]⟩ b := fun b o h n => ⟨h, fun v => n (sub b v)⟩
  refine ⟨⟨fun b h => s.volT h.1, rfl, fun j c' b h1 h2 => ?_, fun i j c1 c2 b h1 h2 _ _ _ _ => ?_, fun j c1 b h1 _ h2 v => ?_⟩, ?_, fun i sl v h1 h2 => ?_⟩
  · obtain ⟨rfl, rfl⟩ := one h1
    rw [oneA h2]
    exact (CeOk.flat fl (s.cell k _ a hc ha)).ext rfl kp
  · rw [(one h1).1, (one h2).1]
  · obtain ⟨rfl, rfl⟩ := one h1
    exact v.2 (oneA h2)
  · show (vs.map some).length = (toZero as).length
    rw [List.length_map, toZero_len, r.1]
  · have h1 : (toZero as)[i]? = some sl := h1
    rw [List.getElem?_map] at h2
    obtain ⟨u, hu, rfl⟩ := Option.map_eq_some_iff.mp h2
    rcases toZero_get k as i sl hk h1 with ⟨rfl, e⟩ | ⟨n, e⟩
    · obtain ⟨b, eb, q⟩ := r.2 i u _ hu e
      rw [ha] at q
      cases Option.some.inj q
      exact ⟨a, eb, rfl⟩
    · have q := r.2 i u _ hu e
      cases sl with
      | no => trivial
      | d x => obtain ⟨w, ew, rw'⟩ := q; exact ⟨w, ew, rw'.ext kp⟩
      | rf j => exact absurd rfl (n j)
theorem gets_ok {ce : List Ce} {st2 : S} (h : st.gets k ce = some st2) : ∃ c', ce[0]? = some c' ∧ (c'.alive = true ∧ c'.flat = true) ∧ st2 = st.setC k c' := by
  unfold S.gets at h
  cases e : ce[0]? with
  | none => (rw [e] at h; cases h)
  | some c' =>
    rw [e] at h
    by_cases q : (c'.alive && c'.flat) = true
    · have h : (if (c'.alive && c'.flat) = true then some (st.setC k c') else none) = some st2 := h
      rw [if_pos q] at h; exact ⟨c', rfl, Bool.and_eq_true_iff.mp q, (Option.some.inj h).symm⟩
    · have h : (if (c'.alive && c'.flat) = true then some (st.setC k c') else none) = some st2 := h
      rw [if_neg q] at h; cases h
/-- behind it -/
theorem back_callR {as : List Sl} {c' : Ce} (s : Sim g ρ σ H st) (hc : st.ce[k]? = some c) (al : c.alive = true) (ha : ρ.ad[k]? = some a)
    (e : Ext ⟨[a], fun b => Vol ρ st b ∧ b ≠ a⟩ ⟨as, [c]⟩ H ρ' st' H') (cs : Cells g ρ' H' st') (h0 : st'.ce[0]? = some c') (alf : c'.alive = true ∧ c'.flat = true) :
    Ext ρ st H ρ (st.setC k c') H' ∧ Sim g ρ σ H' (st.setC k c') ∧ ∀ b, Vol ρ (st.setC k c') b → Vol ρ' st' b := by
  obtain ⟨al', fl'⟩ := alf
  have va : Vol ρ st a := .inr ⟨k, c, hc, al, ha⟩
  have one : ∀ {j : Nat} {c' : Ce}, [c][j]? = some c' → j = 0 ∧ c' = c := fun {j c'} h => by
    cases j with
    | zero => exact ⟨rfl, (Option.some.inj h).symm⟩
    | succ j => simp at h
  have nv : ∀ b, ¬ Vol ρ st b → ¬ Vol ⟨[a], fun b => Vol ρ st b ∧ b ≠ a⟩ ⟨as, [c]⟩ b := fun b n v => by
    rcases v with v | ⟨j, c1, h1, h2, h3⟩
    · exact n v.1
    · obtain ⟨rfl, rfl⟩ := one h1
      cases (Option.some.inj (show some a = some b from h3))
      exact n va
  have ha' : ρ'.ad[0]? = some a := e.pre 0 a rfl
  have va' : Vol ρ' st' a := .inr ⟨0, c', h0, al', ha'⟩
  have sub : ∀ b, Vol ρ (st.setC k c') b → Vol ρ st b := fun b v => vol_setC ⟨c, hc, al⟩ v
  have up : ∀ b, Vol ρ st b → Vol ρ' st' b := fun b v => by
    by_cases z : b = a
    · rw [z]; exact va'
    · left; rw [e.same]; exact ⟨v, z⟩
  have k1 : ∀ b o, H b = some o → ¬ Vol ρ st b → H' b = some o ∧ ¬ Vol ρ (st.setC k c') b := fun b o h n => ⟨(e.keep b o h (nv b n)).1, fun v => n (sub b v)⟩
  have un : ∀ b, Vol ρ st b → b ≠ a → H' b = H b := fun b v z => e.un b ⟨v, z⟩
  refine ⟨⟨k1, fun _ _ h => h, rfl, fun b h => un b (.inl h) fun z => s.out k c a hc al ha (by rw [← z]; exact h), fun b v => .inl (sub b v), e.mono⟩, ⟨⟨fun b h => ?_, ?_, fun j cj b h1 h2 => ?_, ?_, ?_⟩, s.len, fun i sl v h1 h2 => (s.slot i sl v h1 h2).ext k1 fun _ _ h => h⟩, fun b v => up b (sub b v)⟩
  · obtain ⟨o, ho, nt⟩ := s.uok b h
    exact ⟨o, by rw [un b (.inl h) fun z => s.out k c a hc al ha (by rw [← z]; exact h)]; exact ho, nt⟩
  · show ρ.ad.length = (st.ce.set k c').length
    rw [List.length_set]; exact s.clen
  · have h1 : (st.ce.set k c')[j]? = some cj := h1
    rw [List.getElem?_set] at h1
    by_cases z : k = j
    · rw [if_pos z] at h1
      split at h1
      · cases Option.some.inj h1
        rw [← z, ha] at h2
        cases Option.some.inj h2
        exact (CeOk.flat fl' (cs.cell 0 c' a h0 ha')).ext rfl fun b o h n => ⟨h, fun v => n (up b (sub b v))⟩
      · cases h1
    · rw [if_neg z] at h1
      by_cases q : cj.alive = true
      · have vb : Vol ρ st b := .inr ⟨j, cj, h1, q, h2⟩
        refine (s.cell j cj b h1 h2).ext (un b vb fun y => z ?_) k1
        exact s.inj k j c cj b hc h1 al q (by rw [y]; exact ha) h2
      · cases cj <;> first | trivial | exact absurd rfl q
  · intro i j c1 c2 b h1 h2 a1 a2 e1 e2
    have old : ∀ (m : Nat) (c3 : Ce), (st.ce.set k c')[m]? = some c3 → c3.alive = true → ∃ c4, st.ce[m]? = some c4 ∧ c4.alive = true := fun m c3 q q' => by
      rw [List.getElem?_set] at q
      by_cases e : k = m
      · exact ⟨c, by rw [← e]; exact hc, al⟩
      · rw [if_neg e] at q; exact ⟨c3, q, q'⟩
    obtain ⟨c3, q1, q2⟩ := old i c1 h1 a1
    obtain ⟨c4, q3, q4⟩ := old j c2 h2 a2
    exact s.inj i j c3 c4 b q1 q3 q2 q4 e1 e2
  · intro j c1 b h1 a1 e1 v
    have h1 : (st.ce.set k c')[j]? = some c1 := h1
    rw [List.getElem?_set] at h1
    by_cases z : k = j
    · exact s.out j c b (by rw [← z]; exact hc) al e1 v
    · rw [if_neg z] at h1; exact s.out j c1 b h1 a1 e1 v
end
section
variable {X : Cx} {g : G} {ER : EK} {CX : CXT} {k n np : Nat} {f : Addr} {fd : FuncData} {ps : List Str} {ms : MS} {dfl : List D} {dvs : List V} {ds : List Value} {E : XK} {x : Str} {p pos : Pos} {e : Expr} {es : List Expr} {mr : MR}
theorem call_readR (hdf : ∀ A H, RpA g A H dvs dfl) (hE : ∀ c vs ρ st H cls d, ER c vs ρ st H → Cells g ρ H st → ErrIs g (Vol ρ st) H c vs cls d → E cls d H)
    {ρ : Rh} {σ : L2.St} {st : S} {H : Hp} {vs : List V} {as : List Sl} {Q : VK} (s : Sim g ρ σ H st) (r : ArgsOk g ρ st H vs as) (hl : (vs ++ dvs).length = np)
    (h : OutC ER ρ st H (runR ms n (as ++ dfl.map .d) st) fun d st' ρ' H' => Sim g ρ' σ H' st' → ∀ v, Rp g (Vol ρ' st') H' v d → Q v H') : spF g np n ms (vs ++ dvs) H Q E := by
  have rr := r.append (ArgsOk.data (hdf (Vol ρ st) H))
  generalize hb : as ++ dfl.map Sl.d = bs at rr h
  unfold runR at h
  cases e1 : refOf bs with
  | none => simp only [e1] at h; exact h.elim
  | some k =>
  simp only [e1] at h
  cases e2 : st.ce[k]? with
  | none => simp only [e2] at h; exact h.elim
  | some c =>
  simp only [e2] at h
  by_cases e3 : ((c.alive && c.flat) && okRef k bs) = true
  case neg => rw [if_neg e3] at h; exact h.elim
  rw [if_pos e3] at h
  obtain ⟨alf, okk⟩ := Bool.and_eq_true_iff.mp e3
  obtain ⟨al, fl⟩ := Bool.and_eq_true_iff.mp alf
  obtain ⟨hk, _⟩ := List.getElem?_eq_some_iff.mp e2
  have hka : k < ρ.ad.length := by rw [s.clen]; exact hk
  have ha : ρ.ad[k]? = some ρ.ad[k] := List.getElem?_eq_getElem hka
  have sa := sim_argsR s rr e2 al fl okk ha
  refine ⟨hl, ⟨[ρ.ad[k]], fun b => Vol ρ st b ∧ b ≠ ρ.ad[k]⟩, toZero bs, [c], by rw [toZero_len, ← rr.1]; exact hl, sa, ?_⟩
  cases eo : ms (S.start (toZero bs) n [c]) with
  | nx st' =>
    simp only [eo] at h
    cases eg : st.gets k st'.ce with
    | none => simp only [eg] at h; exact h.elim
    | some st2 =>
      simp only [eg] at h
      obtain ⟨c', h0, al', rfl⟩ := gets_ok eg
      intro ρ' H' x cc
      obtain ⟨b1, b2, b3⟩ := back_callR s e2 al ha x cc h0 al'
      exact h ρ H' b1 b2 .non .non
  | rt d st' =>
    simp only [eo] at h
    cases eg : st.gets k st'.ce with
    | none => simp only [eg] at h; exact h.elim
    | some st2 =>
      simp only [eg] at h
      obtain ⟨c', h0, al', rfl⟩ := gets_ok eg
      intro ρ' H' v x cc r'
      obtain ⟨b1, b2, b3⟩ := back_callR s e2 al ha x cc h0 al'
      exact h ρ H' b1 b2 v (r'.back b3)
  | bk st' => simp only [eo] at h; exact h.elim
  | ct st' => simp only [eo] at h; exact h.elim
  | no => simp only [eo] at h; exact h.elim
  | er cl vs' st' =>
    simp only [eo] at h
    cases eg : st.gets k st'.ce with
    | none => simp only [eg] at h; exact h.elim
    | some st2 =>
      simp only [eg] at h
      obtain ⟨c', h0, al', rfl⟩ := gets_ok eg
      intro ρ' H' x cls d cc ei
      obtain ⟨b1, b2, b3⟩ := back_callR s e2 al ha x cc h0 al'
      refine hE cl vs' ρ _ H' cls d (h ρ H' b1) b2.toCells ?_
      obtain ⟨q1, q2⟩ := ei
      exact ⟨q1, q2.imp id fun ⟨dd, nm, y, v, z1, z2, z3, z4, z5, z6⟩ => ⟨dd, nm, y, v, z1, z2, z3, z4, z5.back b3, fun q => z6 (b3 _ q)⟩⟩
theorem pe_mCallR (F : FnOk X.prog X.w X.K X.mg X.base CX k f fd ps (spF g np n ms)) (hr : Room k X.A) (hg : Gl X x) (hm : X.mg x = some (.ref f)) (hk : PySem.W.keepIn X.K (.ref f) = true) (hb : Binds X.K fd ps ds) (hd : Vals dvs ds) (hx : Passes CX X E)
    (hdf : ∀ A H, RpA g A H dvs dfl) (hE : ∀ c vs ρ st H cls d, ER c vs ρ st H → Cells g ρ H st → ErrIs g (Vol ρ st) H c vs cls d → E cls d H) (ha : PA X (e :: es) (tMR g ER mr)) (hlen : ∀ st xs st', mr st = .ok xs st' → xs.length + dfl.length = np) (hdb : (x == ("__debug__" : Str)) = false := by decide) (he : starEach (e :: es) X.env = (false, eval e X.env) :: starEach es X.env := by rfl) (hpl : (backTo pos (starEach es X.env)).any (·.1) = false := by rfl) :
    PE X (.Call (.Name x p) (e :: es) [] pos) (tM g ER (mCallR ms n dfl mr)) := by
  refine PEi (pe_call F hr hg hm hk hb hd hx ha hdb he hpl) fun σ H Q h => ?_
  obtain ⟨ρ, st, s, h⟩ := h
  refine ⟨ρ, st, s, ?_⟩
  have hh := OutC.bind h
  cases ea : mr st with
  | no => rw [ea] at hh; exact hh
  | er c vs st' => rw [ea] at hh; exact hh
  | ok xs st1 =>
    rw [ea] at hh
    intro ρ1 H1 x1 s1 vs rs
    refine call_readR hdf hE s1 rs ?_ (hh ρ1 H1 x1)
    have h1 := hlen st xs st1 ea
    have h2 := (hdf (Vol ρ1 st1) H1).1
    rw [List.length_append, rs.1, h2]
    exact h1
end
end RE
set_option maxHeartbeats 2000000
namespace RE
open PySem PySem.Spec PyProof.Rows L2
theorem passT {X : Cx} {E : XK} (tk : Takes X (fun cls d _ H => E cls d H)) : Passes (L2.CX X.prog X.w) X E := fun _ _ _ _ e s' I c => tk e s' (XE.of_call I (fun _ _ _ h => h) c)
theorem passF {X : Cx} : Passes (L2.CX X.prog X.w) X (fun _ _ _ => False) := fun _ _ _ _ _ _ _ c => by
  obtain ⟨_, _, _, _, _, _, _, _, _, _, _, _, h⟩ := c
  exact h.elim
theorem hE_of {g : G} {E : XK} : ∀ c vs ρ st H cls d, erOf g E c vs ρ st H → Cells g ρ H st → ErrIs g (Vol ρ st) H c vs cls d → E cls d H := fun _ _ _ _ _ cls d h a b => h cls d a b
theorem hE_no {g : G} : ∀ c vs ρ st H cls d, erNo c vs ρ st H → Cells g ρ H st → ErrIs g (Vol ρ st) H c vs cls d → (fun _ _ _ => False : XK) cls d H := fun _ _ _ _ _ _ _ h _ _ => h.elim
section
variable {X : Cx} {g : G} {ER : EK} {pos : Pos} {x : Str}
/-- a number of the module -/
theorem pe_mGi {i : Int} (h : ∃ t, X.mg x = some (.int i t)) (hg : Gl X x) (hd : (x == ("__debug__" : Str)) = false := by decide) : PE X (.Name x pos) (tM g ER (mC (.int i))) := by
  obtain ⟨t, h⟩ := h
  exact pe_mC (pe_glob (v := .int i) hg h ⟨t, rfl⟩ hd) fun _ _ => .int i
/-- a tuple of the module's -/
theorem pe_mGt {d : D} (h : ∃ a, X.mg x = some (.ref a) ∧ ∀ A H, Rp g A H (.ref a) d) (hg : Gl X x) (hd : (x == ("__debug__" : Str)) = false := by decide) : PE X (.Name x pos) (tM g ER (mC d)) := by
  obtain ⟨a, h, r⟩ := h
  exact pe_mC (pe_glob (v := .ref a) hg h rfl hd) r
end
section
variable {X : Cx} {g : G} {ER : EK} {CX : CXT} {k n np : Nat} {f : Addr} {fd : FuncData} {ps : List Str} {ms : MS} {dfl : List D} {dvs : List V} {ds : List Value} {E : XK} {x : Str} {p pos : Pos} {e : Expr} {es : List Expr} {ma : MA}
/-- f() -/
theorem pe_mCall0 (F : FnOk X.prog X.w X.K X.mg X.base CX k f fd [] (spF g 0 n ms)) (hr : Room k X.A) (hg : Gl X x) (hm : X.mg x = some (.ref f)) (hk : PySem.W.keepIn X.K (.ref f) = true) (hb : Binds X.K fd [] []) (hx : Passes CX X E)
    (hE : ∀ c vs ρ st H cls d, ER c vs ρ st H → Cells g ρ H st → ErrIs g (Vol ρ st) H c vs cls d → E cls d H) (hdb : (x == ("__debug__" : Str)) = false := by decide) :
    PE X (.Call (.Name x p) [] [] pos) (tM g ER (mCall ms n [] mNil)) := by
  refine PEi (pe_call0 F hr hg hm hk hb .nil hx hdb) fun σ H Q h => ?_
  obtain ⟨ρ, st, s, h⟩ := h
  exact call_read (ps := []) (dfl := []) (dvs := []) (fun _ _ => RpA.nil) (fun vs => Iff.rfl) hE s (vs := []) (xs := []) RpA.nil rfl h
end
theorem len_nil : ∀ st xs st', mNil st = .ok xs st' → xs.length = 0 := fun st xs st' h => by
  have h : O.ok [] st = O.ok xs st' := h
  injection h with h1 h2
  rw [← h1]; rfl
theorem len_cons {m : M} {ms : MA} {n : Nat} (h : ∀ st xs st', ms st = .ok xs st' → xs.length = n) : ∀ st xs st', mCons m ms st = .ok xs st' → xs.length = n + 1 := fun st xs st' e => by
  unfold mCons at e
  cases e1 : m st with
  | no => rw [e1] at e; cases e
  | er c v s => rw [e1] at e; cases e
  | ok d st1 =>
    rw [e1] at e
    have e : bindO (ms st1) (fun ds st2 => O.ok (d :: ds) st2) = .ok xs st' := e
    cases e2 : ms st1 with
    | no => rw [e2] at e; cases e
    | er c v s => rw [e2] at e; cases e
    | ok ds st2 =>
      rw [e2] at e
      have e : O.ok (d :: ds) st2 = .ok xs st' := e
      injection e with e3 e4
      rw [← e3, List.length_cons, h st1 ds st2 e2]
theorem lenR_nil : ∀ st xs st', rNil st = .ok xs st' → xs.length = 0 := fun st xs st' h => by
  have h : O.ok [] st = O.ok xs st' := h
  injection h with h1 h2
  rw [← h1]; rfl
theorem lenR_dat {m : M} {ms : MR} {n : Nat} (h : ∀ st xs st', ms st = .ok xs st' → xs.length = n) : ∀ st xs st', rDat m ms st = .ok xs st' → xs.length = n + 1 := fun st xs st' e => by
  unfold rDat at e
  cases e1 : m st with
  | no => rw [e1] at e; cases e
  | er c v s => rw [e1] at e; cases e
  | ok d st1 =>
    rw [e1] at e
    have e : bindO (ms st1) (fun ds st2 => O.ok (Sl.d d :: ds) st2) = .ok xs st' := e
    cases e2 : ms st1 with
    | no => rw [e2] at e; cases e
    | er c v s => rw [e2] at e; cases e
    | ok ds st2 =>
      rw [e2] at e
      have e : O.ok (Sl.d d :: ds) st2 = .ok xs st' := e
      injection e with e3 e4
      rw [← e3, List.length_cons, h st1 ds st2 e2]
theorem lenR_ref {i : Nat} {ms : MR} {n : Nat} (h : ∀ st xs st', ms st = .ok xs st' → xs.length = n) : ∀ st xs st', rRef i ms st = .ok xs st' → xs.length = n + 1 := fun st xs st' e => by
  unfold rRef at e
  split at e
  · cases e
  · rename_i s' _ _
    cases e2 : ms st with
    | no => rw [e2] at e; cases e
    | er c v s => rw [e2] at e; cases e
    | ok ds st2 =>
      rw [e2] at e
      have e : O.ok (s' :: ds) st2 = .ok xs st' := e
      injection e with e3 e4
      rw [← e3, List.length_cons, h st ds st2 e2]
  · cases e
end RE
set_option maxHeartbeats 2000000
namespace RE
open PySem PySem.Spec PyProof.Rows L2
theorem okNo {P : Program} {w : World} {K : PySem.W.Frag} {mg : Str → Option Value} {base : Heap} {CX : CXT} {k : Nat} {f : Addr} {fd : FuncData} {ps : List Str} {g : G} {np n : Nat} (h : ps.length = np) : FnOk P w K mg base CX k f fd ps (spF g np n fun _ => .no) :=
  ⟨fun vs H Q E q => by rw [h]; exact q.1, fun A outer s H args us vs Q E _ _ _ _ q => by
    obtain ⟨_, _, _, _, _, _, o⟩ := q
    exact o.elim⟩
theorem tyP {X : Cx} {x : Str} {n : String} {p : Pos} (hg : Gl X x) (hm : X.mg x = none) (hv : bootBuiltins x = some (.type n)) (hn : x ≠ "__name__" := by decide) (hd : (x == ("__debug__" : Str)) = false := by decide) : PE X (.Name x p) (tC (.ty n)) := pe_bltn hg hm hv rfl hn hd
end RE
set_option maxHeartbeats 2000000
namespace RE
open PySem PySem.Spec PyProof.Rows L2
abbrev MO := S → O (Option Int)
def tMO (g : G) (ER : EK) (m : MO) : TO := fun σ H Q => ∃ ρ st, Sim g ρ σ H st ∧ OutC ER ρ st H (m st) fun o st' ρ' H' => Sim g ρ' σ H' st' → Q o H'
theorem POi {X : Cx} {e : Option Expr} {t t' : TO} (p : PO X e t) (h : ∀ σ H Q, t' σ H Q → t σ H Q) : PO X e t' := ⟨fun pq s σ H Q I q => p.run pq s σ H Q I (h _ _ _ q)⟩
def mPN : MO := fun st => .ok none st
def mPS (m : M) : MO := fun st => bindO (m st) fun d st1 => match d with
  | .int i => .ok (some i) st1
  | _ => .no
def cutD (ds : List D) (lo hi : Option Int) : List D := (ds.drop (HT.sIx ds.length 0 lo)).take (HT.sIx ds.length ds.length hi - HT.sIx ds.length 0 lo)
def mSl (m : M) (lo hi : MO) : M := fun st => bindO (m st) fun d st1 => bindO (lo st1) fun l st2 => bindO (hi st2) fun u st3 => match d with
  | .lst ds => .ok (.lst (cutD ds l u)) st3
  | .tup ds => .ok (.tup (cutD ds l u)) st3
  | .ks ds => .ok (.lst (cutD ds l u)) st3
  | _ => .no
section
variable {X : Cx} {g : G} {ER : EK} {pos p2 : Pos} {e : Expr}
theorem po_mN : PO X none (tMO g ER mPN) := POi po_none fun σ H Q h => by
  obtain ⟨ρ, st, s, h⟩ := h
  exact h ρ H Ext.refl s
theorem po_mS {m : M} (h : PE X e (tM g ER m)) : PO X (some e) (tMO g ER (mPS m)) := POi (po_some h) fun σ H Q h => by
  obtain ⟨ρ, st, s, h⟩ := h
  refine ⟨ρ, st, s, (OutC.bind h).mono fun d st1 ρ1 H1 _ h1 s1 x rx => ?_⟩
  cases d with
  | int i => exact ⟨i, rx.inv_int, h1 ρ1 H1 Ext.refl s1⟩
  | _ => exact h1.elim
theorem cut_ok {A : Addr → Prop} {H : Hp} {xs : List V} {ds : List D} (r : RpA g A H xs ds) (lo hi : Option Int) : RpA g A H (cutV xs lo hi) (cutD ds lo hi) := by
  unfold cutV cutD
  rw [r.1]
  exact (r.drop _).take _
theorem pe_mSl {lo hi : Option Expr} {m : M} {ml mh : MO} (hk : X.K = g.K) (he : PE X e (tM g ER m)) (hl : PO X lo (tMO g ER ml)) (hh : PO X hi (tMO g ER mh)) : PE X (.Subscript e (.Slice lo hi none p2) pos) (tM g ER (mSl m ml mh)) := by
  refine PEi (pe_slice (SlR.or sl_list sl_tupA) he hl hh) fun σ H Q h => ?_
  obtain ⟨ρ, st, s, h⟩ := h
  refine ⟨ρ, st, s, (OutC.bind h).mono fun d st1 ρ1 H1 _ h1 s1 x rx => ?_⟩
  refine ⟨ρ1, st1, s1, (OutC.bind h1).mono fun l st2 ρ2 H2 x2 h2 s2 => ?_⟩
  refine ⟨ρ2, st2, s2, (OutC.bind h2).mono fun u st3 ρ3 H3 x3 h3 s3 => ?_⟩
  have rx := (rx.go x2).go x3
  rw [hk]
  cases d with
  | lst ds =>
    obtain ⟨a, xs, rfl, ha, na, ra⟩ := rx.inv_lst
    exact .inl ⟨a, xs, rfl, SqL.of ha, fresh_lst s3 (cut_ok ra l u) fun ρ' H' v x s' r => h3 ρ' H' x s' v r⟩
  | tup ds =>
    obtain ⟨a, xs, rfl, ha, na, ra⟩ := rx.inv_tup
    refine .inr ⟨a, xs, rfl, SqT.of ha, fun z => ?_, fun _ => fresh_tup s3 (cut_ok ra l u) fun ρ' H' v x s' r => h3 ρ' H' x s' v r⟩
    have e : cutD ds l u = ds := by
      unfold cutD
      rw [← ra.1, z.1, z.2, List.drop_zero, Nat.sub_zero, ra.1, List.take_length]
    simp only [e] at h3
    exact h3 ρ3 H3 Ext.refl s3 _ (Rp.tup' ha na ra)
  | ks ds =>
    obtain ⟨a, xs, rfl, ha, ra⟩ := rx.seq (ds := ds) rfl
    rcases ha with ha | ha
    · exact .inl ⟨a, xs, rfl, ha, fresh_lst s3 (cut_ok ra l u) fun ρ' H' v x s' r => h3 ρ' H' x s' v r⟩
    · cases rx with
      | kls h n hl q => exact .inl ⟨_, _, rfl, .inl (.inr ⟨_, h⟩), fresh_lst s3 (cut_ok ⟨hl, q⟩ l u) fun ρ' H' v x s' r => h3 ρ' H' x s' v r⟩
      | klw h hl q => exact .inl ⟨_, _, rfl, .inr h, fresh_lst s3 (cut_ok ⟨hl, q⟩ l u) fun ρ' H' v x s' r => h3 ρ' H' x s' v r⟩
  | _ => exact h3.elim
end
end RE
set_option maxHeartbeats 2000000
namespace RE
open PySem PySem.Spec PyProof.Rows L2
def powD (a b : D) : Option D := match a, b with
  | .int i, .int j => if 0 ≤ j ∧ j ≤ 1000000 ∧ smallI i = true then some (.int (i ^ j.toNat)) else none
  | _, _ => none
theorem rop_pow {g : G} : ROp g (rI CPow fun i j => .int (i ^ j.toNat)) powD := by
  intro ρ σ st H x y dx dy d Q e s rx ry k
  unfold powD at e
  split at e
  · rename_i i j
    split at e
    · rename_i hz
      obtain ⟨h1, h2, h3⟩ := hz
      have h4 := smallI_ok h3
      exact ⟨i, j, rx.inv_int, ry.inv_int, ⟨h1, h2, by omega⟩, k ρ H _ Ext.refl s (by rw [← Option.some.inj e]; exact .int _)⟩
    · cases e
  · cases e
section
variable {X : Cx} {g : G} {ER : EK} {pos pos' : Pos}
theorem RpA.set {A : Addr → Prop} {H : Hp} {xs : List V} {ds : List D} {x : V} {d : D} (h : RpA g A H xs ds) (r : Rp g A H x d) (n : Nat) : RpA g A H (xs.set n x) (ds.set n d) :=
  ⟨by rw [List.length_set, List.length_set]; exact h.1, fun i y e hy he => by
    rw [List.getElem?_set] at hy he
    by_cases z : n = i
    · rw [if_pos z] at hy he
      split at hy
      · split at he
        · cases Option.some.inj hy; cases Option.some.inj he; exact r
        · cases he
      · cases hy
    · rw [if_neg z] at hy he
      exact h.2 i y e hy he⟩
/-- x[k] = v, x a list's cell -/
def mPutL (i : Nat) (mk mv : M) : MS := fun st => bindS (mv st) fun z st1 => match st1.cellOf i with
  | some k => bindS (mk st1) fun y st2 => match y with
    | .int j => match st2.ce[k]? with
      | some (.l ds) => match ixN ds.length j with
        | some n => .nx (st2.setC k (.l (ds.set n z)))
        | none => .no
      | _ => .no
    | _ => .no
  | none => .no
theorem ps_mPutL {o ke ve : Expr} {i : Nat} {mk mv : M} {tp : Pos} (ho : PE X o (tVar i)) (hk : PE X ke (tM g ER mk)) (hv : PE X ve (tM g ER mv)) (hs : swapsWithSole [.Subscript o ke tp] ve pos.line X.env = pure false := by rfl) (hw : swappedStores [.Subscript o ke tp] ve X.env = pure none := by rfl)
    (h1 : (assignEach [.Subscript o ke tp] X.env).map (·.2) = [assign (.Subscript o ke tp) X.env] := by rfl)
    (ha : ∀ v, assign (.Subscript o ke tp) X.env v = (do
      let oo ← holding [v] (eval o X.env)
      let ii ← holding [v, oo] (eval ke X.env)
      standAt tp
      holding [v, oo, ii] (setItem oo ii v)
      release [v, oo, ii] []) := by intro _; rfl) :
    PS X (.Assign [.Subscript o ke tp] ve pos) (tMS g ER (mPutL i mk mv)) := by
  refine PSi (ps_asg hv (pg_sub ho hk set_list ha) hs hw h1) fun E σ H h => ?_
  obtain ⟨ρ, st, s, h⟩ := h
  refine ⟨ρ, st, s, (OutS.bind h).mono fun z st1 ρ1 H1 _ h1 s1 v rv => ?_⟩
  cases e1 : st1.cellOf i with
  | none => simp only [e1] at h1; exact h1.elim
  | some k =>
    simp only [e1] at h1
    obtain ⟨a, hu, ha⟩ := s1.rf (cellOf_ok e1)
    refine ⟨_, hu, ρ1, st1, s1, (OutS.bind h1).mono fun y st2 ρ2 H2 x2 h2 s2 u ru => ?_⟩
    have ha2 := x2.pre k a ha
    have rv2 := rv.go x2
    cases y with
    | int j =>
      cases e3 : st2.ce[k]? with
      | none => simp only [e3] at h2; exact h2.elim
      | some c =>
        cases c with
        | l ds =>
          simp only [e3] at h2
          cases e4 : ixN ds.length j with
          | none => simp only [e4] at h2; exact h2.elim
          | some n =>
            simp only [e4] at h2
            obtain ⟨xs, q2, q3⟩ := s2.cell k _ a e3 ha2
            have xe := Ext.setC (c := .l (ds.set n z)) (o := .lst (xs.set n v)) s2 e3 rfl ha2
            exact ⟨a, xs, j, n, rfl, ru.inv_int, q2, by rw [q3.1]; exact e4, h2 ρ2 σ _ xe (s2.setC e3 rfl ha2 rfl ⟨_, upd_same, (q3.set rv2 n).ext xe.keep⟩)⟩
        | _ => simp only [e3] at h2; exact h2.elim
    | _ => exact h2.elim
/-- x[k], x a name: a datum, or a cell that stays one -/
def mIxB (i : Nat) (mb : M) : M := fun st => match st.cellOf i with
  | some k => bindO (mb st) fun y st1 => match st1.ce[k]? with
    | some (.l ds) => optO (ixI ds y) st1
    | _ => .no
  | none => mBin ixD (mVarF i) mb st
theorem pe_mIxB {x : Str} {p : Pos} {b : Expr} {i : Nat} {mb : M} (hk : X.K = g.K) (hu : X.A.units + 1 < cLine) (hx : PE X (.Name x p) (tVar i)) (hb : PE X b (tM g ER mb)) (hs : PlainIx b) (hn : NoSl b) : PE X (.Subscript (.Name x p) b pos) (tM g ER (mIxB i mb)) := by
  refine PEi (PE.or (pe_mIx hk hu (pe_mVarF hx) hb hs hn) (pe_ix ix_seq hx hb hs)) fun σ H Q h => ?_
  obtain ⟨ρ, st, s, h⟩ := h
  cases e1 : st.cellOf i with
  | none => simp only [mIxB, e1] at h; exact .inl ⟨ρ, st, s, h⟩
  | some k =>
    simp only [mIxB, e1] at h
    obtain ⟨a, hu, ha⟩ := s.rf (cellOf_ok e1)
    refine .inr ⟨_, hu, ρ, st, s, (OutC.bind h).mono fun y st1 ρ1 H1 x1 h1 s1 u ru => ?_⟩
    cases e3 : st1.ce[k]? with
    | none => simp only [e3] at h1; exact h1.elim
    | some c =>
      cases c with
      | l ds =>
        simp only [e3] at h1
        obtain ⟨xs, q2, q3⟩ := s1.cell k _ a e3 (x1.pre k a ha)
        cases y with
        | int j =>
          cases e4 : atD ds j with
          | none =>
            have e5 : ixI ds (.int j) = none := e4
            simp only [e5] at h1; exact h1.elim
          | some d =>
            have e5 : ixI ds (.int j) = some d := e4
            simp only [e5] at h1
            obtain ⟨v, hv, rv⟩ := atD_ok q3 e4
            rw [hk]
            exact .inl ⟨a, xs, j, v, rfl, ru.inv_int, SqL.of q2, hv, h1 ρ1 H1 Ext.refl s1 v rv⟩
        | _ => exact h1.elim
      | _ => simp only [e3] at h1; exact h1.elim
end
end RE
set_option maxHeartbeats 2000000
namespace RE
open PySem PySem.Spec PyProof.Rows L2
/-- e makes a list as its last deed -/
def tF (g : G) (ER : EK) (m : MA) : TE := fun σ H Q => ∃ ρ st, Sim g ρ σ H st ∧ OutC ER ρ st H (m st) fun ds st' ρ' H' => Sim g ρ' σ H' st' → ∀ xs, RpA g (Vol ρ' st') H' xs ds → ∀ p, H' p = none → Q (.ref p) (upd H' p (.lst xs))
section
variable {X : Cx} {g : G} {ER : EK} {pos pos' : Pos}
def fLst (ms : MA) : MA := fun st => bindO (ms st) fun ds st1 => if ds.length ≤ 1000 then .ok ds st1 else .no
theorem pe_fLst {es : List Expr} {ms : MA} (h : PA X es (tMA g ER ms)) : PE X (.List es pos) (tF g ER (fLst ms)) := by
  refine PEi (pe_lst h) fun σ H Q h => ?_
  obtain ⟨ρ, st, s, h⟩ := h
  refine ⟨ρ, st, s, (OutC.bind h).mono fun ds st1 ρ1 H1 _ h1 s1 xs rs => ?_⟩
  by_cases hz : ds.length ≤ 1000
  · rw [if_pos hz] at h1
    exact ⟨by rw [rs.1]; exact Nat.le_trans hz (by decide), h1 ρ1 H1 Ext.refl s1 xs rs⟩
  · rw [if_neg hz] at h1; exact h1.elim
def fList (m : M) : MA := fun st => bindO (m st) fun d st1 => optO (seqD d) st1
theorem pe_fList {p : Pos} {a : Expr} {m : M} (hk : X.K = g.K) (hg : Gl X "list") (hm : X.mg "list" = none) (ha : PE X a (tM g ER m)) (hs : starEach [a] X.env = (false, eval a X.env) :: starEach [] X.env := by rfl) (hpl : (backTo pos (starEach ([] : List Expr) X.env)).any (·.1) = false := by rfl) : PE X (.Call (.Name "list" p) [a] [] pos) (tF g ER (fList m)) := by
  refine PEi (pe_callTy call_list_of hg hm (by decide +kernel) (pa_cons ha pa_nil hs) (by decide) (by decide) hs hpl) fun σ H Q h => ?_
  obtain ⟨ρ, st, s, h⟩ := h
  refine ⟨ρ, st, s, (OutC.bind h).mono fun d st1 ρ1 H1 _ h1 s1 v rv => ?_⟩
  cases e : seqD d with
  | none => simp only [e] at h1; exact h1.elim
  | some ds =>
    simp only [e] at h1
    obtain ⟨a, ys, rfl, ha, ra⟩ := rv.seq e
    rw [hk]
    exact ⟨a, ys, rfl, ha, h1 ρ1 H1 Ext.refl s1 ys ra⟩
/-- a or b, two lists made new -/
def fOr (m n : MA) : MA := fun st => bindO (m st) fun ds st1 => if ds.isEmpty = true then n st1 else .ok ds st1
theorem pe_fOr {a b : Expr} {m n : MA} (hk : X.K = g.K) (ha : PE X a (tF g ER m)) (hb : PE X b (tF g ER n)) : PE X (.BoolOp .Or [a, b] pos) (tF g ER (fOr m n)) := by
  refine PEi (pe_orT ha (pe_one hb)) fun σ H Q h => ?_
  obtain ⟨ρ, st, s, h⟩ := h
  refine ⟨ρ, st, s, (OutC.bind h).mono fun ds st1 ρ1 H1 x1 h1 s1 xs rs p hp => ?_⟩
  have ht : ∀ k, k = !ds.isEmpty → TruV X.K (.ref p) (upd H1 p (.lst xs)) k := fun k e => .inl ⟨xs, SqL.of upd_same, by rw [e, empty_of rs.1]⟩
  cases e : ds.isEmpty with
  | true =>
    rw [e, if_pos rfl] at h1
    refine ⟨false, ht false (by rw [e]; rfl), iteF ⟨ρ1, st1, s1.new hp, h1.later (Ext.new s1 hp)⟩⟩
  | false =>
    rw [e, if_neg (by decide)] at h1
    exact ⟨true, ht true (by rw [e]; rfl), iteT (h1 ρ1 H1 Ext.refl s1 xs rs p hp)⟩
/-- x = a new list: a cell -/
def mSetF (i : Nat) (m : MA) : MS := fun st => bindS (m st) fun ds st1 => .nx (st1.addC i (.l ds))
theorem ps_mSetF {i : Nat} {x : Str} {e : Expr} {m : MA} (hN : X.N.Nodup) (hi : X.N[i]? = some x) (hx : Loc X.env.scope x) (he : PE X e (tF g ER m)) {spos : Pos} (hs : swapsWith e (some (.Name x pos')) spos.line X.env = pure false := by rfl) (hf : X.fn x = true ∨ X.env.scope.names.lookup x = some .local := by first | exact .inl rfl | exact .inr rfl) :
    PS X (.Assign [.Name x pos'] e spos) (tMS g ER (mSetF i m)) := by
  refine PSi (ps_set hN hi hx he hs hf) fun E σ H h => ?_
  obtain ⟨ρ, st, s, h⟩ := h
  refine ⟨ρ, st, s, (OutS.bind h).mono fun ds st1 ρ1 H1 _ h1 s1 xs rs p hp => ?_⟩
  have xe := Ext.addC (c := .l ds) (i := i) (o := .lst xs) s1 hp
  exact h1 (ρ1.addC p) _ _ xe (s1.addC hp ⟨xs, upd_same, rs.ext xe.keep⟩)
end
def spFr (g : G) (np n : Nat) (ms : MS) (mf : MA) : Sp := fun vs H Q E => vs.length = np ∧ ∃ (ρ : Rh) (as : List Sl) (ce : List Ce), as.length = np ∧ Sim g ρ (vs.map some) H ⟨as, ce⟩ ∧ ∃ st1 ds st', ms (S.start as n ce) = .nx st1 ∧ mf st1 = .ok ds st' ∧
  ∀ ρ' H' xs, Ext ρ ⟨as, ce⟩ H ρ' st' H' → Cells g ρ' H' st' → RpA g (Vol ρ' st') H' xs ds → ∀ p, H' p = none → Q (.ref p) (upd H' p (.lst xs))
section
variable {P : Program} {w : World} {base : Heap} {K : PySem.W.Frag} {mg : Str → Option Value}
theorem okFr {g : G} {x qual : Str} {st : Stmt} {f : Addr} {fd : FuncData} {N ps : List Str} {k np n : Nat} {ms : MS} {mf : MA} (F : Fun K x qual st f fd) (S' : FnScope N ps (defScope st)) (hp : ps.length = np) (hN : N.length = n) (hpn : np ≤ n)
    (hbody : ∀ (cdv : Value) (A : Around) (outer : List Env) (s : Shared) (H : Hp) (E : XK), Room k (A.deeper (envOfC qual (defScope st) s.heap.objs.size f cdv)) →
      PSs (cxOf (L2.CX P w) P w K mg base N qual (defScope st) f cdv A outer s H E) (defBody st) (fun D σ H => tMS g (erOf g E) ms { D with nx := fun σ' H' => tRet (tF g (erOf g E) mf) D σ' H' } σ H)) : FnOk P w K mg base (L2.CX P w) (k + 1) f fd ps (spFr g np n ms mf) := by
  refine F.okX S' (fun vs H Q E h => by rw [hp]; exact h.1) fun cdv A outer s H vs Q E hr h => ⟨_, hbody cdv A outer s H E hr, ?_⟩
  obtain ⟨hl, ρ, as, ce, ha, sm, st1, ds, st', e1, e2, q⟩ := h
  subst hN
  refine ⟨ρ, S.start as N.length ce, sim_start sm (by omega), ?_⟩
  rw [e1]
  intro ρ1 σ1 H1 x1 s1
  refine ⟨ρ1, st1, s1, ?_⟩
  rw [e2]
  intro ρ2 H2 x2 s2 xs rs p hp'
  exact q ρ2 H2 xs ((x1.trans x2).ce rfl) s2.toCells rs p hp'
end
/-- what it gives for such data -/
def runFr (ms : MS) (mf : MA) (n : Nat) (ds : List D) (st : S) : O (List D) := match ms (S.start (ds.map .d) n []) with
  | .nx st1 => match mf st1 with
    | .ok es _ => .ok es st
    | _ => .no
  | _ => .no
def fCall (ms : MS) (mf : MA) (n : Nat) (ma : MA) : MA := fun st => bindO (ma st) fun ds st1 => runFr ms mf n ds st1
section
variable {X : Cx} {g : G} {ER : EK} {CX : CXT} {k n np : Nat} {f : Addr} {fd : FuncData} {ps : List Str} {ms : MS} {mf : MA} {E : XK} {x : Str} {p pos : Pos} {e : Expr} {es : List Expr} {ma : MA}
theorem pe_fCall (F : FnOk X.prog X.w X.K X.mg X.base CX k f fd ps (spFr g np n ms mf)) (hr : Room k X.A) (hg : Gl X x) (hm : X.mg x = some (.ref f)) (hk : PySem.W.keepIn X.K (.ref f) = true) (hb : Binds X.K fd ps []) (hx : Passes CX X E)
    (ha : PA X (e :: es) (tMA g ER ma)) (hlen : ∀ st xs st', ma st = .ok xs st' → xs.length = np) (hdb : (x == ("__debug__" : Str)) = false := by decide) (he : starEach (e :: es) X.env = (false, eval e X.env) :: starEach es X.env := by rfl) (hpl : (backTo pos (starEach es X.env)).any (·.1) = false := by rfl) :
    PE X (.Call (.Name x p) (e :: es) [] pos) (tF g ER (fCall ms mf n ma)) := by
  refine PEi (pe_call F hr hg hm hk hb .nil hx ha hdb he hpl) fun σ H Q h => ?_
  obtain ⟨ρ, st, s, h⟩ := h
  refine ⟨ρ, st, s, ?_⟩
  have hh := OutC.bind h
  cases ea : ma st with
  | no => rw [ea] at hh; exact hh
  | er c vs st' => rw [ea] at hh; exact hh
  | ok ds st1 =>
    rw [ea] at hh
    intro ρ1 H1 x1 s1 vs rs
    have h1 := hlen st ds st1 ea
    have h2 : OutC ER ρ1 st1 H1 (runFr ms mf n ds st1) _ := hh ρ1 H1 x1
    unfold runFr at h2
    cases e1 : ms (S.start (ds.map .d) n []) with
    | nx stb =>
      simp only [e1] at h2
      cases e2 : mf stb with
      | ok es' stc =>
        simp only [e2] at h2
        rw [List.append_nil]
        refine ⟨by rw [rs.1]; exact h1, ⟨[], Vol ρ1 st1⟩, ds.map .d, [], by rw [List.length_map]; exact h1, sim_args s1 rs, stb, es', stc, e1, e2, fun ρ' H' xs x' cc rx p' hp' => ?_⟩
        obtain ⟨b1, b2, b3⟩ := back_call s1 rfl x'
        exact h2 ρ1 H' b1 b2 xs (rx.ext fun a o h n => ⟨h, fun v => n (b3 a v)⟩) p' hp'
      | er c v s => simp only [e2] at h2; exact h2.elim
      | no => simp only [e2] at h2; exact h2.elim
    | _ => simp only [e1] at h2; exact h2.elim
end
end RE
set_option maxHeartbeats 2000000
namespace RE
open PySem PySem.Spec PyProof.Rows L2
def clsIs (o : Obj) (s : String) : Bool := match o.cls with
  | .type t => decide (t = s)
  | _ => false
/-- the value v of the written part is the datum d -/
def ktV (K : PySem.W.Frag) : Nat → Value → D → Bool
  | _, .int i _, .int j => decide (i = j)
  | n + 1, .ref a, .kt ds => match K.lookup a with
    | some o => (clsIs o "tuple" && o.dict.isNone) && match o.data with
      | .seq its _ => decide (ds.length ≤ 1000) && ktL K n its.toList ds
      | _ => false
    | none => false
  | _, _, _ => false
where ktL (K : PySem.W.Frag) (n : Nat) : List Value → List D → Bool
  | [], [] => true
  | v :: vs, d :: ds => ktV K n v d && ktL K n vs ds
  | _, _ => false
theorem clsIs_ok {o : Obj} {s : String} (h : clsIs o s = true) : o.cls = .type s := by
  unfold clsIs at h
  split at h
  · rename_i t e; rw [e, of_decide_eq_true h]
  · cases h
theorem ktV_ok {K : PySem.W.Frag} : ∀ (n : Nat) (v : Value) (d : D), ktV K n v d = true → ∃ u, RelV u v ∧ ∀ (g : G), g.K = K → ∀ A H, Rp g A H u d := by
  intro n
  induction n with
  | zero =>
    intro v d h
    cases v <;> cases d <;> first
      | (have e := of_decide_eq_true (show decide _ = true from h); subst e; exact ⟨.int _, ⟨_, rfl⟩, fun g hg A H => .int _⟩)
      | cases h
  | succ n ih =>
    have all : ∀ (vs : List Value) (ds : List D), ktV.ktL K n vs ds = true → ∃ us, Vals us vs ∧ ∀ (g : G), g.K = K → ∀ A H, RpA g A H us ds := by
      intro vs
      induction vs with
      | nil =>
        intro ds h
        cases ds with
        | nil => exact ⟨[], .nil, fun g hg A H => RpA.nil⟩
        | cons _ _ => cases h
      | cons v vs ihv =>
        intro ds h
        cases ds with
        | nil => cases h
        | cons d ds =>
          have h' : (ktV K n v d && ktV.ktL K n vs ds) = true := h
          obtain ⟨h1, h2⟩ := (Bool.and_eq_true_iff).mp h'
          obtain ⟨u, r1, q1⟩ := ih v d h1
          obtain ⟨us, r2, q2⟩ := ihv ds h2
          exact ⟨u :: us, .cons r1 r2, fun g hg A H => RpA.cons (q1 g hg A H) (q2 g hg A H)⟩
    intro v d h
    cases v with
    | int i t =>
      cases d with
      | int j => have e := of_decide_eq_true (show decide (i = j) = true from h); subst e; exact ⟨.int _, ⟨_, rfl⟩, fun g hg A H => .int _⟩
      | _ => cases h
    | ref a =>
      cases d with
      | kt ds =>
        unfold ktV at h
        cases e : K.lookup a with
        | none => simp only [e] at h; cases h
        | some o =>
          simp only [e] at h
          obtain ⟨h1, h2⟩ := Bool.and_eq_true_iff.mp h
          cases e2 : o.data with
          | seq its m =>
            simp only [e2] at h2
            obtain ⟨h3, h4⟩ := Bool.and_eq_true_iff.mp h2
            obtain ⟨us, r, q⟩ := all its.toList ds h4
            have hz : its.size ≤ sizeLine := by
              have e3 := r.length
              have e4 := (q ⟨K, fun _ => 0, fun _ => 0, fun _ => []⟩ rfl (fun _ => False) (fun _ => none)).1
              have e5 : its.size = its.toList.length := by rw [Array.length_toList]
              have e6 := of_decide_eq_true h3
              rw [e5, ← e3, e4]
              exact Nat.le_trans e6 (by decide)
            refine ⟨.ref a, rfl, fun g hg A H => ?_⟩
            subst hg
            obtain ⟨h1, h5⟩ := Bool.and_eq_true_iff.mp h1
            exact .ktup (.inl ⟨o, its, m, e, clsIs_ok h1, Option.isNone_iff_eq_none.mp h5, e2, hz, r⟩) (q g rfl A H).1 (q g rfl A H).2
          | _ => simp only [e2] at h2; cases h2
      | _ => cases h
    | _ => cases d <;> cases h
/-- the constant x of the module -/
theorem const_t {K : PySem.W.Frag} {g : G} {mg : Str → Option Value} {x : Str} {a : Addr} {d : D} {n : Nat} (hg : g.K = K) (h : mg x = some (.ref a)) (e : ktV K n (.ref a) d = true) : ∃ a, mg x = some (.ref a) ∧ ∀ A H, Rp g A H (.ref a) d := by
  obtain ⟨u, r, q⟩ := ktV_ok n _ d e
  have hu : u = .ref a := by
    cases u with
    | ref b => have r' : Value.ref a = Value.ref b := r; injection r' with r'; rw [r']
    | int i => obtain ⟨t, r'⟩ := (show ∃ t, Value.ref a = Value.int i t from r); cases r'
    | str z => obtain ⟨t, r'⟩ := (show ∃ t, Value.ref a = Value.str z t from r); cases r'
    | bl b => have r' : Value.ref a = Value.bool b := r; cases r'
    | non => have r' : Value.ref a = Value.none := r; cases r'
    | _ => first | (cases r; done) | (obtain ⟨t, r'⟩ := r; cases r'; done)
  exact ⟨a, h, fun A H => by rw [← hu]; exact q g hg A H⟩
/-- the script -/
theorem script_rp {g : G} {H : Hp} {a : Addr} {ns : List Int} (hO : Only H) (h : SqL g.K H a (ns.map V.int)) : Rp g (fun _ => False) H (.ref a) (.ks (ns.map .int)) := by
  have q : RpA g (fun _ => False) H (ns.map V.int) (ns.map D.int) := ⟨by rw [List.length_map, List.length_map], fun i x d hx hd => by
    rw [List.getElem?_map] at hx hd
    obtain ⟨n, hn, rfl⟩ := Option.map_eq_some_iff.mp hx
    obtain ⟨m, hm, rfl⟩ := Option.map_eq_some_iff.mp hd
    rw [hn] at hm
    cases Option.some.inj hm
    exact .int n⟩
  rcases h with h | h
  · rcases h with h | ⟨o, h⟩
    · rcases hO a with z | ⟨o, xs, z⟩
      · rw [h] at z; cases z
      · rw [h] at z; cases z
    · exact .kls h (fun f => f.elim) q.1 q.2
  · exact .klw h q.1 q.2
/-- the law's promise -/
def spLaw (K : PySem.W.Frag) : Sp := fun vs H Q _ => ∃ (a : Addr) (ns : List Int), vs = [.ref a] ∧ Only H ∧ SqL K H a (ns.map V.int) ∧ ns.length ≤ 63 ∧ ∀ H', Q (.bl true) H'
def trueS : SO → Bool
  | .rt (.bl true) _ => true
  | _ => false
theorem law_imp {P : Program} {w : World} {g : G} {mg : Str → Option Value} {base : Heap} {CX : CXT} {k n : Nat} {f : Addr} {fd : FuncData} {ps : List Str} {ms : MS} (F : FnOk P w g.K mg base CX k f fd ps (spF g 1 n ms))
    (h : ∀ ns : List Int, ns.length ≤ 63 → trueS (ms (S.start [.d (.ks (ns.map .int))] n [])) = true) : FnOk P w g.K mg base CX k f fd ps (spLaw g.K) := F.imp fun vs H Q E q => by
  obtain ⟨a, ns, rfl, hO, hS, hl, q⟩ := q
  refine ⟨rfl, ⟨[], fun _ => False⟩, [.d (.ks (ns.map .int))], [], rfl, ⟨⟨fun a f => f.elim, rfl, fun k c a e => by simp at e, fun j k c c' a e => by simp at e, fun k c a e => by simp at e⟩, rfl, fun i s v e1 e2 => ?_⟩, ?_⟩
  · cases i with
    | zero =>
      have e1 : some (Sl.d (.ks (ns.map .int))) = some s := e1
      have e2 : some (some (V.ref a)) = some v := e2
      cases Option.some.inj e1
      cases Option.some.inj e2
      refine ⟨.ref a, rfl, (script_rp hO hS).ext fun b o hb n => ⟨hb, fun v => ?_⟩⟩
      rcases v with v | ⟨k, c, hc, _⟩
      · exact v.elim
      · simp at hc
    | succ i => simp at e1
  · have h1 := h ns hl
    unfold trueS at h1
    split at h1
    · rename_i st' e
      rw [e]
      intro ρ' H' v _ _ r
      rw [r.inv_bl]
      exact q H'
    · cases h1
theorem cx_no {P : Program} {w : World} {H : Hp} {s : Shared} {e : Value} {s' : Shared} (h : L2.CX P w [] H s (fun _ _ _ => False) e s') : False := by
  obtain ⟨_, _, _, _, _, _, _, _, _, _, _, _, h⟩ := h
  exact h
end RE
set_option maxHeartbeats 4000000
namespace RE
open PySem PySem.Spec PyProof.Rows L2 Builtin Builtin.ObjectAttr
/-- what the written part says of such a class -/
structure ErrC (K : PySem.W.Frag) (C : Addr) (newId : String) (bmB : List Value) : Prop where
  cls : ∃ nm q N bs sn sub ab col dd k0 k1 k2 k3 k5, K.lookup C = some (excClassObj nm q C N bs bmB true sn sub ab col dd k0 k1 k2 k3 k5 newId)
  setA : PySem.W.findIn K (.ref C) "__setattr__" = some (some (.builtin "object.__setattr__"))
  isE : PySem.W.subIn K (.ref C) (.type "BaseException") = some true
  isT : PySem.W.typeIn K (.ref C) = some (.type "type")
  kept : PySem.W.keepIn K (.ref C) = true
/-- the facts of the built-in class -/
structure BaseC (B newId initId : String) (bmB : List Value) : Prop where
  F : ExcBaseFacts B newId initId bmB
  pass : ∀ self : Value, refuseLoop self "__setattr__" bmB = pure ()
  obj : bmB.contains (.type "object") = true
  typ : typeOf (.type B) = pure (.type "type")
theorem base_VE : BaseC "ValueError" "ValueError.__new__" "ValueError.__init__" [.type "ValueError", .type "Exception", .type "BaseException", .type "object"] := ⟨F.excBase_ValueError, F.store_ValueError.passes, by decide +kernel, by kernel_rfl⟩
section
variable {X : Cx} {pn : List (Addr × Obj)} {σ : L2.St} {H : Hp} {s : Shared} {a C : Addr} {f : Str} {y : V} {u : Value} {E : Value → Shared → Prop} {A : Around} {B newId initId : String} {bmB : List Value}
theorem err_init {us : List Value} {Q : Value → Shared → Prop} (BC : BaseC B newId initId bmB) (T : ErrC X.K C newId bmB) (In : Inv X pn σ H s) (e : H a = some (exo a C none)) (hl : us.length ≤ sizeLine) (h : ∀ s', Inv X pn σ H s' → Q .none s') :
    wpAny (model X.prog X.w) A (call (.builtin initId) (.ref a :: us)) Q E s := by
  obtain ⟨nm, q, N, bs, sn, sub, ab, col, dd, k0, k1, k2, k3, k5, hC⟩ := T.cls
  obtain ⟨t1, ho⟩ := exo_at In.hok e
  obtain ⟨hp, gs, dr, tk, os⟩ := s
  refine wpAny_call (HandSPX.init_base BC.F (fun _ => rfl) (In.kIn _ _ hC) ho hl fun h' t2 kp hx => ?_)
  have J := In.write (t' := tk) (x := a) (e := a) (o := exo a C none) (by rw [e]; exact True.intro) (.inl rfl) kp ⟨_, hx⟩ (exo_ok hx)
  have same : upd H a (exo a C none) = H := by
    funext b
    by_cases hb : b = a
    · rw [hb, upd_same, e]
    · rw [upd_ne hb]
  rw [same] at J
  exact h _ J
end
def tErrI (K : PySem.W.Frag) (newId : String) (bmB : List Value) (ta : TA) : TE := fun σ H Q => ta σ H fun vs H1 => ∃ (a C : Addr) (ws : List V), vs = .ref a :: ws ∧ ws.length ≤ 1000 ∧ ErrC K C newId bmB ∧ H1 a = some (exo a C none) ∧ Q .non H1
section
variable {X : Cx} {o e : Expr} {es : List Expr} {to te : TE} {ta : TA} {f x : Str} {p p' p1 p2 pos : Pos} {B newId initId : String} {bmB : List Value}
theorem pe_errI {pl : Sem Bool} (BC : BaseC B newId initId bmB) (hg : Gl X x) (hm : X.mg x = none) (hv : bootBuiltins x = some (.type B)) (init : PySem.W.findCls X.K (.type B) (.type "type") "__init__" = some (.val (.builtin initId))) (hstub : Manifest.isStub B = false) (hhand : PySem.W.handedIn (.builtin initId) = true) (ha : PA X (e :: es) ta)
    (hn : x ≠ "__name__" := by decide) (hdb : (x == ("__debug__" : Str)) = false := by decide)
    (hc : eval (.Call (.Attribute (.Name x p1) "__init__" p2) (e :: es) [] pos) X.env = (do
      let ov ← eval (.Name x p1) X.env
      standAt p2.atName
      let (fm, self) ← holding [ov] (getMethod ov "__init__" pl)
      callWith pos fm self (backTo pos (starEach (e :: es) X.env)) (backToKw pos (keywordEach [] X.env))) := by rfl) (he : starEach (e :: es) X.env = (false, eval e X.env) :: starEach es X.env := by rfl) (hpl : (backTo pos (starEach es X.env)).any (·.1) = false := by rfl) :
    PE X (.Call (.Attribute (.Name x p1) "__init__" p2) (e :: es) [] pos) (tErrI X.K newId bmB ta) := by
  refine ⟨fun pn s σ H Q In h => ?_⟩
  refine PySem.W.methodCall_KW (ld_blt In hg hm hv ?_ hn hdb) hc
  obtain ⟨m, fr⟩ := In.fr
  refine PySem.W.method_type fr In.ok.mod.kin BC.typ hstub init hhand ?_
  show wpAny _ _ (callWith pos (Value.builtin initId) [] (backTo pos (starEach (e :: es) X.env)) []) _ _ _
  refine PyProof.Rows.callWith_method1 (thn (ha.run pos pn _ σ H _ (In.tok _) h) fun us s1 h1 => ?_) he hpl
  obtain ⟨vs, H1, I1, r1, a, C, ws, ev, hl, T, ea, q⟩ := h1
  subst ev
  cases r1 with
  | @cons _ ua _ ur ra rw' =>
    obtain rfl : ua = Value.ref a := ra
    exact err_init BC T I1 ea (by rw [← Paired.length rw', sizeLine_eq]; omega) fun s' J => ⟨.non, H1, J, rfl, q⟩
end
section
variable {X : Cx} {pn : List (Addr × Obj)} {σ : L2.St} {H1 H2 : Hp} {hp hp2 h2 : Heap} {g1 g2 : Array GenState} {d1 d2 : Drawn} {t1 t2 : Nat} {os1 os2 : OsState} {a C : Addr} {Q : XK}
/-- the end of a making that kept no field: the error is let go -/
theorem made_bare (I1 : Inv X pn σ H1 ⟨hp, g1, d1, t1, os1⟩) (rs : Raises X (.ref C)) (ha : hp.objs.size ≤ a) (kp : ∀ b o, hp.get? b = some o → hp2.get? b = some o) (un : Un (frs X.stack) [] (upd H1 a (exo a C none)) H2 hp2 h2) (hok : HOk X.prog X.w H2 h2) (ho : os2 = os1) (hb : AllBare g2)
    (ea : H2 a = some (exo a C none)) (q : Q (.ref C) none (del H2 a)) : MkP X pn σ Q (.ref a) ⟨h2, g2, d2, t2, os2⟩ := by
  obtain ⟨ta0, hobj⟩ := exo_at hok ea
  have hn := I1.hok.fresh ha
  obtain ⟨Gh, g1', g2'⟩ := restrict h2 fun b => decide (b ≠ a)
  have same : ∀ b, b ≠ a → Gh.get? b = h2.get? b := fun b hb => g1' b (decide_eq_true hb)
  have none0 : Gh.get? a = none := g2' a (by simp)
  have nha : ∀ {b : Addr} {o : Obj}, hp.get? b = some o → b ≠ a := fun z => Nat.ne_of_lt (Nat.lt_of_lt_of_le (Heap.lt_size z) ha)
  have up : ∀ {b : Addr}, b ≠ a → H1 b = none → upd H1 a (exo a C none) b = none := fun hb n => by rw [upd_ne hb]; exact n
  have keep : ∀ {b : Addr} {o : HO}, H1 b = some o → upd H1 a (exo a C none) b = some o ∧ b ≠ a := fun z => ⟨by rw [upd_ne (ne_of_none z hn)]; exact z, ne_of_none z hn⟩
  have U : Un (frs X.stack) [] H1 (del H2 a) hp Gh := by
    refine ⟨fun b o z n hf hx => ?_, fun b o z n hf hx => ?_, fun b o z n hx => ?_, fun b o z hx => ?_, fun b xs z => ?_, fun b o v z => ?_, fun b ps z => ?_⟩
    · rw [same b (nha z)]; exact un.keep b o (kp b o z) (up (nha z) n) hf hx
    · rw [same b (nha z)]; exact un.slot b o (kp b o z) (up (nha z) n) hf hx
    · rw [del_ne (nha z)]; exact un.free b o (kp b o z) (up (nha z) n) hx
    · rw [same b (nha z)]; exact un.there b o (kp b o z) hx
    · rw [del_ne (keep z).2]; exact un.tups b xs (keep z).1
    · rw [del_ne (keep z).2]; exact un.frzs b o v (keep z).1
    · rw [del_ne (keep z).2]; exact un.tbls b ps (keep z).1
  have hok3 : HOk X.prog X.w (del H2 a) Gh := fun b o z => by
    have hba : b ≠ a := fun e => by rw [e, del_same] at z; cases z
    rw [del_ne hba] at z
    have noa : ∀ {c : Addr}, H2 c = some (.own b) → c ≠ a := fun hc => at_ne ea hc exo_own
    refine (hok b o z).stay (fun c v hc w => ?_) (fun c hc => by rw [del_ne (noa hc)]; exact hc) fun c xs hc => by rw [del_ne (at_ne ea hc exo_tup)]; exact hc
    have hca : c ≠ a := by
      rcases hc with hc | hc
      · rw [hc]; exact hba
      · exact noa hc
    rw [same c hca]; exact w
  have J : Inv X pn σ (del H2 a) ⟨Gh, g2, d2, t2, os2⟩ := I1.call' (ch := []) ho U hok3 hb (fun b z => absurd z (by simp))
  refine ⟨a, _, _, ⟨Gh, g2, d2, t2, os2⟩, _, .ref C, none, rfl, J, fun b o z => ?_, none0, hobj, ⟨rfl, rfl⟩, rfl, rfl, del_same, rfl, hb, rs, q⟩
  by_cases hba : b = a
  · rw [hba, none0] at z; cases z
  · exact (same b hba).symm.trans z
end
/-- C(..), its __init__ keeping sp -/
def tMkE (C : Addr) (sp : Sp) (ta : TA) : L2.St → Hp → XK → Prop := fun σ H Q => ta σ H fun vs H1 => vs.length ≤ 1000 ∧ ∀ a, H1 a = none → sp (.ref a :: vs) (upd H1 a (exo a C none))
  (fun v H2 => v = .non ∧ ((H2 a = some (exo a C none) ∧ Q (.ref C) none (del H2 a)) ∨
    ∃ (d : Addr) (fs : List (Str × V)), H2 a = some (exo a C (some d)) ∧ H2 d = some (exd d fs) ∧ H1 d = none ∧ Q (.ref C) (some d) (upd (del H2 a) d (.xd fs)))) (fun _ _ _ => False)
section
variable {X : Cx} {CX : CXT} {x : Str} {C fI : Addr} {k : Nat} {fd : FuncData} {ps : List Str} {sp : Sp} {B newId initId : String} {bmB : List Value} {e : Expr} {es : List Expr} {ta : TA} {p pos : Pos}
theorem pmk_core (BC : BaseC B newId initId bmB) (T : ErrC X.K C newId bmB) (iC : PySem.W.findIn X.K (.ref C) "__init__" = some (some (.ref fI))) (tI : PySem.W.typeIn X.K (.ref fI) = some (.type "function"))
    (F1 : FnOk X.prog X.w X.K X.mg X.base CX k fI fd ps sp) (hr : Room (k + 1) X.A) (hb : Binds X.K fd ps []) (hx : Passes CX X (fun _ _ _ => False)) {pn : List (Addr × Obj)} {s1 : Shared} {σ : L2.St} {H1 : Hp} {Q : XK} {us : List Value} {vs : List V}
    (I1 : Inv X pn σ H1 s1) (r1 : Vals vs us) (hz : vs.length ≤ 1000) (q1 : ∀ a, H1 a = none → sp (.ref a :: vs) (upd H1 a (exo a C none))
      (fun v H2 => v = .non ∧ ((H2 a = some (exo a C none) ∧ Q (.ref C) none (del H2 a)) ∨
        ∃ (d : Addr) (fs : List (Str × V)), H2 a = some (exo a C (some d)) ∧ H2 d = some (exd d fs) ∧ H1 d = none ∧ Q (.ref C) (some d) (upd (del H2 a) d (.xd fs)))) (fun _ _ _ => False)) :
    wpAny (model X.prog X.w) X.A (call (.ref C) us) (MkP X pn σ Q) X.xe s1 := by
  obtain ⟨nm, qn, N, bs, sn, sub, ab, col, dd, k0, k1, k2, k3, k5, hC⟩ := T.cls
  obtain ⟨hp, gs1, dr, tk, os⟩ := s1
  have above : hp.objs.size ≤ hp.objs.size + 1 := Nat.le_succ _
  have hn : H1 (hp.objs.size + 1) = none := I1.hok.fresh above
  have hw := q1 (hp.objs.size + 1) hn
  have kk : ∀ b o, hp.get? b = some o → ((hp.push (PySem.W.kdv_tup us)).push (HandSPX.excO C hp.objs.size)).get? b = some o := fun b o e => Heap.get?_push_of_some _ (Heap.get?_push_of_some _ e)
  have hget : ((hp.push (PySem.W.kdv_tup us)).push (HandSPX.excO C hp.objs.size)).get? (hp.objs.size + 1) = some (HandSPX.excO C hp.objs.size) := by heap_get
  have I2 : Inv X pn σ (upd H1 (hp.objs.size + 1) (exo (hp.objs.size + 1) C none)) ⟨(hp.push (PySem.W.kdv_tup us)).push (HandSPX.excO C hp.objs.size), gs1, dr, tk, os⟩ :=
    I1.laid (t' := tk) (a := hp.objs.size + 1) (o := exo (hp.objs.size + 1) C none) (h' := (hp.push (PySem.W.kdv_tup us)).push (HandSPX.excO C hp.objs.size)) kk above (exo_ok hget)
  have rv2 : Vals (V.ref (hp.objs.size + 1) :: vs) (Value.ref (hp.objs.size + 1) :: us) := .cons rfl r1
  have hlen : (Value.ref (hp.objs.size + 1) :: us ++ []).length = ps.length := by
    have e := rv2.length
    rw [F1.len _ _ _ _ hw] at e
    rw [List.append_nil]; exact e.symm
  have hus : us.length ≤ sizeLine := by rw [← Paired.length r1, sizeLine_eq]; omega
  have hbind := hb _ (Value.ref (hp.objs.size + 1) :: us) I2.kIn hlen
  rw [List.append_nil] at hbind
  refine wpAny_call (HandSPX.call_own BC.F (fun _ => rfl) (I1.kIn _ _ hC) (PySem.W.looks_findIn I1.kIn iC) (fun self => PySem.W.bind_fn I1.kIn self tI) hus
    (codeAny_mono (F1.run _ X.stack _ _ ⟨Value.ref (hp.objs.size + 1) :: us, []⟩ (Value.ref (hp.objs.size + 1) :: us) _ _ (fun _ _ _ => False) (hr.make C us []) (I2.env0.make C us []) hbind rv2 hw) fun r s' hr' => ?_))
  cases r with
  | error er => exact hx pn σ _ _ er s' I2 hr'
  | ok fl =>
    cases fl with
    | ret u =>
      obtain ⟨v, H2, os2, bare2, un2, hok2, rv, ev, hh⟩ := hr'
      subst ev
      obtain ⟨h2, g2, d2, t2, osx⟩ := s'
      rcases hh with ⟨ea, q2⟩ | ⟨d, fs, ea, ed, hd1, q2⟩
      · exact ⟨rv, made_bare I1 (raises_own T.isE T.isT) above kk un2 hok2 os2 bare2 ea q2⟩
      · exact ⟨rv, mk_end (raises_own T.isE T.isT) I1 above kk un2 hok2 os2 bare2 ea ed hd1 q2⟩
    | next => exact hr'.elim
    | brk => exact hr'.elim
    | cont => exact hr'.elim
theorem pmk_err0 (BC : BaseC B newId initId bmB) (T : ErrC X.K C newId bmB) (iC : PySem.W.findIn X.K (.ref C) "__init__" = some (some (.ref fI))) (tI : PySem.W.typeIn X.K (.ref fI) = some (.type "function"))
    (F1 : FnOk X.prog X.w X.K X.mg X.base CX k fI fd ps sp) (hr : Room (k + 1) X.A) (hb : Binds X.K fd ps []) (hx : Passes CX X (fun _ _ _ => False)) (hg : Gl X x) (hm : X.mg x = some (.ref C)) (hdb : (x == ("__debug__" : Str)) = false := by decide) :
    PMk X (.Call (.Name x p) [] [] pos) (tMkE C sp tNil) := by
  intro pn s σ H Q In h
  refine wpAny_Call_Name_kw (ld_glob In hg hm ?_ hdb)
  exact PySem.W.callWith_K0 In.kIn T.kept (pmk_core (us := []) (vs := []) BC T iC tI F1 hr hb hx In .nil (Nat.zero_le _) h.2)
end
end RE
set_option maxHeartbeats 4000000
namespace RE
open PySem PySem.Spec PyProof.Rows L2
section
variable {X : Cx} {pn : List (Addr × Obj)} {σ : L2.St} {H : Hp} {sI s : Shared} {B h3 : Heap} {a : Addr} {cls : Value} {d : Option Addr} {D : Ends} {Wout : WX}
/-- an error that has come down at a try -/
structure Down (X : Cx) (pn : List (Addr × Obj)) (σ : L2.St) (H : Hp) (sI s : Shared) (B : Heap) (a : Addr) (cls : Value) (d : Option Addr) (h3 : Heap) : Prop where
  inv : Inv X pn σ H sI
  nb : ∀ b o, sI.heap.get? b = some o → b ∉ frs X.stack → B.get? b = some o
  up : sI.heap.UpToSlots h3
  fly : HandSPX.FlyingZ B (X.env :: X.outer) a (Zc cls d) h3
  na : H a = none
  os : s.os = sI.os
  ag : AllBare s.gens
theorem Down.more {h4 : Heap} (x : Down X pn σ H sI s B a cls d h3) (fl : HandSPX.FlyingZ B (X.env :: X.outer) a (Zc cls d) h4) (up : h3.UpToSlots h4) : Down X pn σ H sI s B a cls d h4 := ⟨x.inv, x.nb, x.up.trans up, fl, x.na, x.os, x.ag⟩
end
end RE
set_option maxHeartbeats 4000000
namespace RE
open PySem PySem.Spec PyProof.Rows L2
def spIni0 (K : PySem.W.Frag) (newId : String) (bmB : List Value) : Sp := fun vs H Q _ => ∃ (a C : Addr), vs = [.ref a] ∧ ErrC K C newId bmB ∧ H a = some (exo a C none) ∧ Q .non H
section
variable {P : Program} {w : World} {K : PySem.W.Frag} {mg : Str → Option Value} {base : Heap} {x qual p f : Str} {st : Stmt} {fI : Addr} {fd : FuncData} {newId : String} {bmB : List Value}
theorem okIni0 (F : Fun K x qual st fI fd) (S' : FnScope ["self"] ["self"] (defScope st))
    (hbody : ∀ (cdv : Value) (A : Around) (outer : List Env) (s : Shared) (H : Hp) (E : XK), Room 0 (A.deeper (envOfC qual (defScope st) s.heap.objs.size fI cdv)) →
      PSs (cxOf (L2.CX P w) P w K mg base ["self"] qual (defScope st) fI cdv A outer s H E) (defBody st) (tDrop (tErrI K newId bmB (tCons (tVar 0) tNil)))) :
    FnOk P w K mg base (L2.CX P w) 1 fI fd ["self"] (spIni0 K newId bmB) := by
  refine F.okX S' (fun vs H Q E h => by obtain ⟨_, _, rfl, _⟩ := h; rfl) fun cdv A outer s H vs Q E hr h => ⟨_, hbody cdv A outer s H E hr, ?_⟩
  obtain ⟨a, C, rfl, T, e, q⟩ := h
  exact ⟨.ref a, rfl, a, C, [], rfl, by decide, T, e, q⟩
end
def mRaise0 (c : Nat) : MS := fun st => .er c [] st
section
variable {X : Cx} {g : G} {E : XK} {x f : Str} {c k : Nat} {fI : Addr} {fd : FuncData} {ps : List Str} {B newId initId : String} {bmB : List Value} {e : Expr} {p pos pos' : Pos} {m : M}
theorem ps_mRaise0 (hc : X.calm = true) (hk : X.K = g.K) (tk : Takes X (fun cls d _ H => E cls d H)) (BC : BaseC B newId initId bmB) (T : ErrC g.K (g.C c) newId bmB) (iC : PySem.W.findIn g.K (.ref (g.C c)) "__init__" = some (some (.ref fI))) (tI : PySem.W.typeIn g.K (.ref fI) = some (.type "function"))
    (F1 : FnOk X.prog X.w X.K X.mg X.base (L2.CX X.prog X.w) k fI fd ps (spIni0 g.K newId bmB)) (hr : Room (k + 1) X.A) (hb : Binds X.K fd ps []) (hg : Gl X x) (hm : X.mg x = some (.ref (g.C c))) (hf : g.fld c = [])
    (hdb : (x == ("__debug__" : Str)) = false := by decide) :
    PS X (.Raise (some (.Call (.Name x p) [] [] pos')) none pos) (tMS g (erOf g E) (mRaise0 c)) := by
  refine PSi (ps_raise hc tk (pmk_err0 BC (by rw [hk]; exact T) (by rw [hk]; exact iC) (by rw [hk]; exact tI) F1 hr hb passF hg hm hdb)) fun D σ H h => ?_
  obtain ⟨ρ, st, s, h⟩ := h
  refine ⟨Nat.zero_le _, fun a ha => ⟨a, g.C c, rfl, T, upd_same, rfl, .inl ⟨upd_same, ?_⟩⟩⟩
  have e : del (upd H a (exo a (g.C c) none)) a = H := by
    funext b
    by_cases hba : b = a
    · rw [hba, del_same, ha]
    · rw [del_ne hba, upd_ne hba]
  rw [e]
  exact h ρ H Ext.refl _ _ s.toCells ⟨rfl, .inl ⟨hf, rfl, rfl⟩⟩
end
end RE
set_option maxHeartbeats 4000000
namespace RE
open PySem PySem.Spec PyProof.Rows L2
theorem ErrIs.go {g : G} {ρ ρ' : Rh} {st st' : S} {H H' : Hp} {c : Nat} {vs : List D} {cls : Value} {d : Option Addr} (x : ErrIs g (Vol ρ st) H c vs cls d) (e : Ext ρ st H ρ' st' H') : ErrIs g (Vol ρ' st') H' c vs cls d := by
  obtain ⟨q1, q2⟩ := x
  refine ⟨q1, q2.imp id fun ⟨dd, nm, y, v, z1, z2, z3, z4, z5, z6⟩ => ?_⟩
  obtain ⟨k1, k2⟩ := e.keep dd _ z2 z6
  exact ⟨dd, nm, y, v, z1, k1, z3, z4, z5.go e, k2⟩
theorem ErrIs.ce {g : G} {ρ : Rh} {st st' : S} {H : Hp} {c : Nat} {vs : List D} {cls : Value} {d : Option Addr} (x : ErrIs g (Vol ρ st) H c vs cls d) (e : st'.ce = st.ce) : ErrIs g (Vol ρ st') H c vs cls d := by
  obtain ⟨q1, q2⟩ := x
  have k : ∀ a o, H a = some o → ¬ Vol ρ st a → H a = some o ∧ ¬ Vol ρ st' a := fun a o h n => ⟨h, fun v => n ((Vol.ce e a).mp v)⟩
  refine ⟨q1, q2.imp id fun ⟨dd, nm, y, v, z1, z2, z3, z4, z5, z6⟩ => ⟨dd, nm, y, v, z1, z2, z3, z4, z5.ext k, (k dd _ z2 z6).2⟩⟩
end RE
set_option maxHeartbeats 4000000
namespace RE
open PySem PySem.Spec PyProof.Rows L2
/-- what an own error's class must say, so that its instances can be asked -/
structure SuC (K : PySem.W.Frag) (C : Addr) : Prop where
  cl : (PySem.W.clsIn K C).isSome = true
  xf : XfC K C
  kc : PySem.W.findIn K (.ref C) "__class__" = some (some (.builtin "object.__class__"))
  gt : PySem.W.specialIn K (.builtin "object.__class__") "__get__" = some (some (.builtin "getset_descriptor.__get__"))
  tk : PySem.W.takesIn K (.builtin "object.__class__") = some true
  mr : PySem.W.mroIn K C (.type "object") = some true
end RE
set_option maxHeartbeats 4000000
namespace RE
open PySem PySem.Spec PyProof.Rows L2
end RE
set_option maxHeartbeats 4000000
namespace RE
open PySem PySem.Spec PyProof.Rows L2
end RE
set_option maxHeartbeats 4000000
namespace RE
open PySem PySem.Spec PyProof.Rows L2
section
variable {P : Program} {w : World} {base : Heap} {K : PySem.W.Frag} {mg : Str → Option Value}
theorem okFD {g : G} {x qual : Str} {pa : Arguments} {bd : List Stmt} {sc : Scope} {dvs : List V} {kws : List (Str × V)} {f : Addr} {fd : FuncData} {N ps : List Str} {k np n : Nat} {ms : MS} (F : FunD K x qual pa bd sc dvs kws f fd) (S' : FnScope N ps sc) (hp : ps.length = np) (hN : N.length = n) (hpn : np ≤ n)
    (hbody : ∀ (cdv : Value) (A : Around) (outer : List Env) (s : Shared) (H : Hp) (E : XK), Room k (A.deeper (envOfC qual sc s.heap.objs.size f cdv)) →
      PSs (cxOf (L2.CX P w) P w K mg base N qual sc f cdv A outer s H E) bd (tMS g (erOf g E) ms)) : FnOk P w K mg base (L2.CX P w) (k + 1) f fd ps (spF g np n ms) := by
  refine F.ok S' (fun vs H Q E h => by rw [hp]; exact h.1) fun cdv A outer s H vs Q E hr h => ⟨_, hbody cdv A outer s H E hr, ?_⟩
  obtain ⟨hl, ρ, as, ce, ha, sm, ho⟩ := h
  subst hN
  refine ⟨ρ, S.start as N.length ce, sim_start sm (by omega), ?_⟩
  cases e : ms (S.start as N.length ce) with
  | nx st' => rw [e] at ho; exact fun ρ' σ' H' x s' => ho ρ' H' (x.ce rfl) s'.toCells
  | rt d st' => rw [e] at ho; exact fun ρ' σ' H' v x s' r => ho ρ' H' v (x.ce rfl) s'.toCells r
  | bk st' => rw [e] at ho; exact ho.elim
  | ct st' => rw [e] at ho; exact ho.elim
  | er c vs' st' => rw [e] at ho; exact fun ρ' H' x => ho ρ' H' (x.ce rfl)
  | no => rw [e] at ho; exact ho.elim
end
section
variable {X : Cx} {g : G} {ER : EK} {CX : CXT} {k n np : Nat} {f : Addr} {fd : FuncData} {ps : List Str} {ms : MS} {dfl : List D} {dvs : List V} {E : XK} {x : Str} {p pos : Pos} {e : Expr} {es : List Expr} {ma : MA}
theorem pe_mCallD (F : FnOk X.prog X.w X.K X.mg X.base CX k f fd ps (spF g np n ms)) (hr : Room k X.A) (hg : Gl X x) (hm : X.mg x = some (.ref f)) (hk : PySem.W.keepIn X.K (.ref f) = true) (hb : ∃ ds, Vals dvs ds ∧ Binds X.K fd ps ds) (hx : Passes CX X E)
    (hdf : ∀ A H, RpA g A H dvs dfl) (hE : ∀ c vs ρ st H cls d, ER c vs ρ st H → Cells g ρ H st → ErrIs g (Vol ρ st) H c vs cls d → E cls d H) (ha : PA X (e :: es) (tMA g ER ma)) (hlen : ∀ st xs st', ma st = .ok xs st' → xs.length + dfl.length = np) (hps : ps.length = np)
    (hnd : (x == ("__debug__" : Str)) = false := by decide)
    (hstr : starEach (e :: es) X.env = (false, eval e X.env) :: starEach es X.env := by rfl)
    (hnon : (backTo pos (starEach es X.env)).any (·.1) = false := by rfl) :
    PE X (.Call (.Name x p) (e :: es) [] pos) (tM g ER (mCall ms n dfl ma)) := by
  obtain ⟨ds, hd, hb⟩ := hb
  exact pe_mCall F hr hg hm hk hb hd hx hdf hE ha hlen hps hnd hstr hnon
theorem lenDf {m : MA} {n k j : Nat} (h : ∀ st xs st', m st = .ok xs st' → xs.length = n) (e : n + k = j) : ∀ st xs st', m st = .ok xs st' → xs.length + k = j := fun st xs st' q => by rw [h st xs st' q]; exact e
end
end RE
set_option maxHeartbeats 4000000
namespace RE
open PySem PySem.Spec PyProof.Rows L2
/-- those at the places of pm -/
def reo {α : Type} (pm : List Nat) (l : List α) : List α := pm.filterMap fun i => l[i]?
theorem reo_vals {vs : List V} {us : List Value} (r : Vals vs us) : ∀ pm : List Nat, Vals (reo pm vs) (reo pm us)
  | [] => .nil
  | i :: pm => by
    unfold reo
    rw [List.filterMap_cons, List.filterMap_cons]
    cases e : vs[i]? with
    | none =>
      have e2 : us[i]? = none := by
        rw [List.getElem?_eq_none_iff] at e ⊢
        rw [← Paired.length r]; exact e
      rw [e2]
      exact reo_vals r pm
    | some v =>
      obtain ⟨u, hu, ru⟩ := r.get e
      rw [hu]
      exact .cons ru (reo_vals r pm)
theorem reo_rp {g : G} {A : Addr → Prop} {H : Hp} {vs : List V} {ds : List D} (r : RpA g A H vs ds) : ∀ pm : List Nat, RpA g A H (reo pm vs) (reo pm ds)
  | [] => RpA.nil
  | i :: pm => by
    unfold reo
    rw [List.filterMap_cons, List.filterMap_cons]
    cases e : ds[i]? with
    | none =>
      have e2 : vs[i]? = none := by
        rw [List.getElem?_eq_none_iff] at e ⊢
        rw [r.1]; exact e
      rw [e2]
      exact reo_rp r pm
    | some d =>
      obtain ⟨v, hv, rv⟩ := r.get e
      rw [hv]
      exact RpA.cons rv (reo_rp r pm)
/-- such a call binds -/
def KwOk (K : PySem.W.Frag) (fd : FuncData) (ps ks : List Str) (pm : List Nat) : Prop := ∀ (s : Shared) (ws : List Value), K.In s.heap → ws.length = ks.length → BindsTo s fd ⟨[], ks.zip ws⟩ (ps.zip (reo pm ws))
theorem PKi {X : Cx} {kws : List Keyword} {t t' : TA} (p : PK X kws t) (h : ∀ σ H Q, t' σ H Q → t σ H Q) : PK X kws t' := ⟨fun pos pq s σ H Q I q => p.run pos pq s σ H Q I (h _ _ _ q)⟩
def mCallK (ms : MS) (n : Nat) (pm : List Nat) (ma : MA) : M := fun st => bindO (ma st) fun ds st1 => runD ms n (reo pm ds) st1
section
variable {X : Cx} {g : G} {ER : EK} {CX : CXT} {k n np : Nat} {f : Addr} {fd : FuncData} {ps ks : List Str} {ms : MS} {E : XK} {x : Str} {p pos kpos : Pos} {e : Expr} {kws : List Keyword} {ma : MA} {pm : List Nat} {nm : Option Str}
theorem pk_mNil : PK X [] (tMA g ER mNil) := PKi pk_nil fun σ H Q h => by
  obtain ⟨ρ, st, s, h⟩ := h
  exact h ρ H Ext.refl s [] RpA.nil
theorem pk_mCons {m : M} (ha : PE X e (tM g ER m)) (hr : PK X kws (tMA g ER ma)) : PK X (⟨nm, e, kpos⟩ :: kws) (tMA g ER (mCons m ma)) := by
  refine PKi (pk_cons ha hr) fun σ H Q h => ?_
  obtain ⟨ρ, st, s, h⟩ := h
  refine ⟨ρ, st, s, (OutC.bind h).mono fun d st1 ρ1 H1 _ h1 s1 v rv => ?_⟩
  refine ⟨ρ1, st1, s1, (OutC.bind h1).mono fun ds st2 ρ2 H2 x2 h2 s2 vs rs => ?_⟩
  exact h2 ρ2 H2 Ext.refl s2 (v :: vs) (RpA.cons (rv.go x2) rs)
theorem pe_mCallK (F : FnOk X.prog X.w X.K X.mg X.base CX k f fd ps (spF g np n ms)) (hr : Room k X.A) (hg : Gl X x) (hm : X.mg x = some (.ref f)) (hk : PySem.W.keepIn X.K (.ref f) = true) (hb : KwOk X.K fd ps ks pm) (hx : Passes CX X E)
    (hE : ∀ c vs ρ st H cls d, ER c vs ρ st H → Cells g ρ H st → ErrIs g (Vol ρ st) H c vs cls d → E cls d H) (ha : PK X kws (tMA g ER ma)) (hlen : ∀ st xs st', ma st = .ok xs st' → xs.length = ks.length ∧ (reo pm xs).length = np) (hps : ps.length = np)
    (hsome : (backToKw pos (keywordEach kws X.env)).all (·.1.isSome) = true := by rfl)
    (hnames : (backToKw pos (keywordEach kws X.env)).filterMap (·.1) = ks := by rfl) (hnd : (x == ("__debug__" : Str)) = false := by decide)
    (hpl : ((backTo pos (starEach ([] : List Expr) X.env)).any (·.1) || (backToKw pos (keywordEach kws X.env)).any (·.1.isNone)) = false := by rfl) :
    PE X (.Call (.Name x p) [] kws pos) (tM g ER (mCallK ms n pm ma)) := by
  refine ⟨fun pq s σ H Q In h => ?_⟩
  obtain ⟨ρ, st, sm, h⟩ := h
  refine wpAny_Call_Name_kw (ld_glob In hg hm ?_ hnd)
  have hh := OutC.bind h
  have rd : tMA g ER ma σ H fun zs H2 => zs.length = ks.length ∧ spF g np n ms (reo pm zs) H2 Q E := by
    refine ⟨ρ, st, sm, ?_⟩
    cases ea : ma st with
    | no => rw [ea] at hh; exact hh
    | er c vs st' => rw [ea] at hh; exact hh
    | ok xs st1 =>
      rw [ea] at hh
      intro ρ1 H1 x1 s1 vs rs
      obtain ⟨h1, h2⟩ := hlen st xs st1 ea
      have rr := reo_rp rs pm
      refine ⟨rs.1.trans h1, ?_⟩
      have q := call_read (ps := ps) (dfl := []) (dvs := []) (fun _ _ => RpA.nil) (fun vs => by rw [hps]) hE s1 rr (by rw [List.append_nil, rr.1]; exact h2) (by rw [List.append_nil]; exact hh ρ1 H1 x1)
      rw [List.append_nil] at q
      exact q
  refine PySem.W.callWith_KW0 (h₀ := X.base) In.ok.mod.kin hk hsome (thn (ha.run pos pq s σ H _ In rd) fun ws s2 h2 => ?_) hpl
  obtain ⟨zs, H2, I2, rz, l1, q⟩ := h2
  refine ⟨I2.kIn, ?_⟩
  rw [hnames]
  refine wpAny_call (codeAny_mono (F.run X.A X.stack s2 H2 ⟨[], ks.zip ws⟩ (reo pm ws) (reo pm zs) Q E hr I2.env0 (hb s2 ws I2.kIn (rz.length.symm.trans l1)) (reo_vals rz pm) q) fun r s' hq => ?_)
  cases r with
  | error e => exact hx pq σ H2 s2 e s' I2 hq
  | ok fl =>
    cases fl with
    | ret u => exact I2.after hq
    | next => exact hq.elim
    | brk => exact hq.elim
    | cont => exact hq.elim
theorem lenK {m : MA} {a b : Nat} {pm : List Nat} (h : ∀ st xs st', m st = .ok xs st' → xs.length = a) (e : ∀ xs : List D, xs.length = a → (reo pm xs).length = b) : ∀ st xs st', m st = .ok xs st' → xs.length = a ∧ (reo pm xs).length = b := fun st xs st' q => ⟨h st xs st' q, e xs (h st xs st' q)⟩
end
end RE
set_option maxHeartbeats 4000000
namespace RE
open PySem PySem.Spec PyProof.Rows L2
def toI : D → Option Int
  | .int i => some i
  | _ => none
theorem toI_all {g : G} {A : Addr → Prop} {H : Hp} : ∀ {ds : List D} {ys : List V} {ns : List Int}, mapO toI ds = some ns → RpA g A H ys ds → ys = ns.map V.int
  | [], ys, ns, e, r => by
    rw [r.cases_nil]
    cases Option.some.inj e
    rfl
  | d :: ds, ys, ns, e, r => by
    obtain ⟨y, ys, rfl, r1, r2⟩ := r.cases_cons
    unfold mapO at e
    cases d with
    | int i =>
      simp only [toI] at e
      cases e2 : mapO toI ds with
      | none => rw [e2] at e; cases e
      | some ns' =>
        rw [e2] at e
        cases Option.some.inj e
        rw [toI_all e2 r2, r1.inv_int]
        rfl
    | _ => simp only [toI] at e; cases e
end RE
set_option maxHeartbeats 4000000
namespace RE
open PySem PySem.Spec PyProof.Rows L2
section
variable {s : Shared} {A : Around} {w : World} {P : Program} {E : Value → Shared → Prop}
/-- a new set -/
abbrev ns0 (w : World) : Obj := { cls := .type "set", dict := none, data := .set #[] 0 (.fresh 0 0 (!w.params.followText "set-order")) }
abbrev ns1 (w : World) (h : Heap) : Heap := h.push (ns0 w)
/-- what the fill leaves -/
def Filled (w : World) (s s₂ : Shared) (ns : List Int) : Prop := ∃ h' tk c, s₂ = { s with heap := h', toks := tk } ∧ SetR w h' s.heap.objs.size (fun j => decide (j ∈ ns)) c ∧ c ≤ ns.length ∧ ∀ b o, s.heap.get? b = some o → h'.get? b = some o
set_option maxHeartbeats 3200000 in
theorem set_fill {l : Addr} {items : Array Value} {ns : List Int} (hh : A.handled = none) (hl : s.heap.IsList l items) (hit : IntsAre items.toList ns) (hb : ns.length + 1 < scanBound) :
    wpAny (model P w) A.in1 (Builtin.«set.__init__» ⟨[.ref s.heap.objs.size, .ref l], []⟩)
      (fun fin t => match fin with
        | .done f => wants (fun r s₂ => r = Value.none ∧ Filled w s s₂ ns) E (.ok f) t
        | .again c => c.quiet = true ∧ codeAny (model P w) A c (wants (fun r s₂ => r = Value.none ∧ Filled w s s₂ ns) E) t)
      (fun e t => wants (fun r s₂ => r = Value.none ∧ Filled w s s₂ ns) E (.error e) t) { s with heap := ns1 w s.heap } := by
  have len : items.size = ns.length := by
    rw [← Array.length_toList]; exact IntsAre.length hit
  have hS : (ns1 w s.heap).get? s.heap.objs.size = some (ns0 w) := Heap.get?_push_size _ rfl
  have hT : Shared.TypeIs { s with heap := ns1 w s.heap } (.ref s.heap.objs.size) "set" := ⟨_, hS, rfl⟩
  obtain ⟨⟨oc, od, oda, osl⟩, hol, hcl, nl, hdl⟩ := hl
  simp only at hcl hdl
  subst hcl; subst hdl
  have below : l < s.heap.objs.size := Heap.lt_size hol
  have old : (ns1 w s.heap).get? l = some { cls := .type "list", dict := od, data := .seq items nl, slots := osl } := Heap.get?_push_of_some _ hol
  have q1 := F.sub_list_set
  have q2 := F.sub_list_frozenset
  have q3 : (Value.type "list" == Value.type "dict") = false := by decide
  have isl : (ns1 w s.heap).IsList l items := ⟨_, old, rfl, nl, rfl⟩
  have sz : (ns1 w s.heap).objs.size = s.heap.objs.size + 1 := Heap.size_push ..
  unfold Builtin.«set.__init__» Builtin.Frozenset.updateFrom noKeywords
  generalize hPI : pyIter = PI
  wp_walk
  subst hPI
  refine wpAny_pyIter_list isl ?_
  refine wpAny_bind (wpAny_runValue (?_)) -- the fill
  have off : s.heap.objs.size ∉ [(ns1 w s.heap).objs.size, l] := by
    rw [sz]
    intro z
    rcases List.mem_cons.mp z with z1 | z1
    · exact Nat.ne_of_lt (Nat.lt_succ_self _) z1
    · exact Nat.ne_of_gt below (List.mem_singleton.mp z1)
  refine set_update_ints ((Walks.list (by simp [hh]) _ l (by rw [sz]; exact Nat.ne_of_lt (Nat.lt_succ_of_lt below)) items).toS) s.heap.objs.size off ns len hb (fun i v hv => ?_) (items.size - 0) 0 _ (by omega) (Nat.zero_le _)
    ⟨⟨_, Heap.get?_push_size _ rfl, rfl, rfl⟩, (isl.push _)⟩ ⟨0, Nat.le_refl 0, setR_new_at (Heap.get?_push_of_some _ hS)⟩ fun s' c' hm hc' hS' => ?_
  · have hi : i < ns.length := by rw [← len]; exact (Array.getElem?_eq_some_iff.mp hv).1
    have ⟨tk, e⟩ := hit.int_at i v (Array.getElem?_toList ▸ hv)
    exact ⟨ns[i], tk, List.getElem?_eq_getElem hi, by rw [e, List.getD_eq_getElem?_getD, List.getElem?_eq_getElem hi]; rfl⟩
  · obtain ⟨h', g2, d', tk', os'⟩ := s'
    obtain rfl : g2 = s.gens := hm.gens
    obtain rfl : d' = s.drawn := hm.drawn
    obtain rfl : os' = s.os := hm.os
    show wpAny _ _ _ _ _ _
    refine wpAny_pure ?_
    show wpAny _ _ (ret .none) _ _ _
    refine wpAny_pure ⟨rfl, h', tk', c', rfl, hS', by omega, fun b o e => ?_⟩
    have lb : b < s.heap.objs.size := Heap.lt_size e
    refine hm.heap b o (fun z => ?_) (Heap.get?_push_of_some _ (Heap.get?_push_of_some _ e))
    rw [sz] at z
    rcases List.mem_cons.mp z with z1 | z1
    · exact Nat.ne_of_lt lb z1
    · exact Nat.ne_of_lt (Nat.lt_succ_of_lt lb) (List.mem_singleton.mp z1)
set_option maxHeartbeats 3200000 in
theorem set_list {l : Addr} {items : Array Value} {ns : List Int} {Q : Value → Shared → Prop} (hh : A.handled = none) (hl : s.heap.IsList l items) (hit : IntsAre items.toList ns) (hb : ns.length + 1 < scanBound)
    (h : ∀ s₂, Filled w s s₂ ns → Q (.ref s.heap.objs.size) s₂) : wpAny (model P w) A (call (.type "set") [.ref l]) Q E s := by
  obtain ⟨c, tl, g1⟩ := F.called_set.mro
  have g2 := F.called_set.made
  have g3 := F.called_set.sub
  refine wpAny_call (codeAny_of_tree (show wpAny _ _ (callAny (.type "set") _) _ _ _ from ?_))
  have g0 := Code.quiet_builtin (id := "type.__call__") ⟨[.type "set", .ref l], []⟩ (by decide +kernel)
  refine wpAny_pure ⟨g0, codeAny_builtin F.entry_type_call ?_⟩
  rw [Around.under_plain (weight_type_call_type _ _ _) rfl]
  have g4 := F.called_set.notType
  have g5 := F.called_set.canCreate
  have g6 := F.typeCall_set_1 (.ref l)
  repeat' first | assumption | wp_step
  refine codeAny_mono (code_set_led1 (.ref l) (E := E) (Q₁ := fun o t => o = .ref s.heap.objs.size ∧ t = { s with heap := ns1 w s.heap }) ⟨rfl, rfl⟩) fun r s₁ hr => ?_
  cases r with
  | error e => exact hr
  | ok fl =>
    cases fl with
    | ret o =>
      obtain ⟨rfl, rfl⟩ := hr
      have hS : (ns1 w s.heap).get? s.heap.objs.size = some (ns0 w) := Heap.get?_push_size _ rfl
      have hT : Shared.TypeIs { s with heap := ns1 w s.heap } (.ref s.heap.objs.size) "set" := ⟨_, hS, rfl⟩
      have g7 := F.called_set.init.lookup
      have g8 := F.called_set.init.bind (.ref s.heap.objs.size)
      repeat' first | assumption | wp_step
      refine codeAny_mono (codeAny_call_builtin (R := wants (fun r s₂ => r = Value.none ∧ Filled w s s₂ ns) E) F.called_set.init.plain F.entry_set_init (check_set_init_1 hT (set_fill (by simp [hh]) hl hit hb))) fun r₂ s₂ hr₂ => ?_
      cases r₂ with
      | error e => exact hr₂
      | ok fl₂ =>
        cases fl₂ with
        | ret r =>
          obtain ⟨rfl, hf⟩ := hr₂
          repeat' first | assumption | wp_step
          exact h _ hf
        | _ => exact hr₂.elim
    | _ => exact hr.elim
end
end RE
set_option maxHeartbeats 4000000
namespace RE
open PySem PySem.Spec PyProof.Rows L2
end RE
set_option maxHeartbeats 4000000
namespace RE
open PySem PySem.Spec PyProof.Rows L2
end RE
set_option maxHeartbeats 4000000
namespace RE
open PySem PySem.Spec PyProof.Rows L2
end RE
set_option maxHeartbeats 4000000
namespace RE
open PySem PySem.Spec PyProof.Rows L2
theorem kv_vals : ∀ {kvs : List (Key × V)} {vs : List (Key × Value)}, KV kvs vs → Vals (kvs.map (·.2)) (vs.map (·.2))
  | _, _, .nil => .nil
  | _, _, .cons r t => .cons r.2 (kv_vals t)
/-- what is asked of d, and what is told -/
def rDVals : V → Hp → VK → Prop := fun x H Q => ∃ (d : Addr) (kvs : List (Key × V)), x = V.ref d ∧ Rd H d (.dK kvs) ∧ ∀ p, H p = none → Q (.ref p) (upd H p (.lst (kvs.map (·.2))))
section
variable {X : Cx} {g : G} {ER : EK} {e : Expr} {te : TE} {m : M} {p apos cpos pos : Pos}
theorem pe_dvals (calm : X.calm = true) (pe : PE X e te) (hg : Gl X "list") (hm : X.mg "list" = none) (hb : attributeBase e "values" X.env (eval e X.env) = eval e X.env := by rfl) (hl : (apos.endLine == cpos.line) = true := by rfl)
    (one : starEach [.Call (.Attribute e "values" apos) [] [] cpos] X.env = (false, eval (.Call (.Attribute e "values" apos) [] [] cpos) X.env) :: starEach [] X.env := by rfl) :
    PE X (.Call (.Name "list" p) [.Call (.Attribute e "values" apos) [] [] cpos] [] pos) (fun σ H Q => te σ H fun x H1 => rDVals x H1 Q) := by
  refine ⟨fun pq s σ H Q I h => ?_⟩
  refine wpAny_Call_Name_kw (ld_blt I hg hm (by decide +kernel : bootBuiltins "list" = some (.type "list")) ?_)
  refine callWith_type1 ?_ one rfl
  rw [one]
  show wpAny _ _ (spliced ((false, eval (Expr.Call (.Attribute e "values" apos) [] [] cpos) X.env) :: backTo pos (starEach [] X.env))) _ _ s
  refine Calls.spliced_cons ?_
  refine wpAny_Call_method (id := "dict.values") (T := "dict") hb rfl hl F.plainAttrs_dict F.slot_dict_values F.type_dict_values (thn (pe.run pq s σ H _ I h) fun u s1 q => ?_)
  obtain ⟨x, H1, I1, rx, d, kvs, rfl, hd, k⟩ := q
  obtain rfl : u = Value.ref d := rx
  obtain ⟨small, notSys, vs, kv, dof⟩ := dk_rd I1.hok hd
  obtain ⟨ep, dat⟩ := dof.dictAt
  have same : kvs.length = vs.length := Paired.length kv
  refine ⟨dof.typeIs, dof.mapOf.noDict, ?_⟩
  show wpAny _ _ (callWith cpos (Value.builtin "dict.values") [.ref d] [] []) _ X.xe s1
  have I2 : Inv X pq σ H1 { s1 with heap := s1.heap.push { cls := .type "dict_values", data := .fields #[.ref d] } } := I1.kept (t' := s1.toks) fun _ _ z => Heap.get?_push_of_some _ z
  refine method_meetsIn F.slot_dict_values F.entry_dict_values rfl (PySem.evalArgs_none ⟨rfl, dof.typeIs, F.args_dict_values_1 _, _, meets_dict_values (mixKind X.prog X.w) d notSys, ⟨vs, dof⟩, ?_⟩)
  refine Calls.spliced_nil ?_
  refine PySem.W.kdl_call (PySem.W.kdl_values (ep := ep) (kvs := vs) (knd := mixKind X.prog X.w)) (I1.ok.hd calm) ⟨⟨_, Heap.get?_push_size _ rfl, rfl, rfl⟩, dat.push _⟩ (by omega) fun h' tk acc c hk new items => ?_
  have ev : acc.toList = vs.map (·.2) := PySem.W.kdl_vals_eq acc.toList (by rw [Array.length_toList]; exact items.1) fun j v z => items.2 j v (by rw [← Array.getElem?_toList]; exact z)
  refine ⟨.ref _, upd H1 _ (.lst (kvs.map (·.2))), I2.laid (t' := tk) hk (Nat.le_refl _) ?_, rfl, k _ (I2.hok.fresh (Nat.le_refl _))⟩
  refine (show ObjOk X.prog X.w _ _ _ (HO.lst (kvs.map (·.2))) from ⟨by rw [List.length_map]; exact small, acc.toList, c, by rw [ev]; exact kv_vals kv, ?_⟩)
  rw [Array.toArray_toList]
  exact new
end
end RE
set_option maxHeartbeats 4000000
namespace RE
open PySem PySem.Spec PyProof.Rows L2
end RE
set_option maxHeartbeats 4000000
namespace RE
open PySem PySem.Spec PyProof.Rows L2
end RE
set_option maxHeartbeats 4000000
namespace RE
open PySem PySem.Spec PyProof.Rows L2
end RE
set_option maxHeartbeats 4000000
namespace RE
open PySem PySem.Spec PyProof.Rows L2
end RE
set_option maxHeartbeats 4000000
namespace RE
open PySem PySem.Spec PyProof.Rows L2
/-- at it an iterator over the list or the tuple l stands, k items on -/
def SqIt (h : Heap) (it l : Addr) (k : Nat) (xs : Array Value) : Prop := (h.IsListIter it l k ∧ h.IsList l xs) ∨ (h.IsTupleIter it l k ∧ h.IsTuple l xs)
theorem SqIt.go {h h' : Heap} {it l : Addr} {k : Nat} {xs : Array Value} (x : SqIt h it l k xs) (e : ∀ c o, c = it ∨ c = l → h.get? c = some o → h'.get? c = some o) : SqIt h' it l k xs :=
  x.imp (fun y => ⟨y.1.at fun o z => e _ o (.inl rfl) z, y.2.at fun o z => e _ o (.inr rfl) z⟩) fun y => ⟨y.1.at fun o z => e _ o (.inl rfl) z, y.2.at fun o z => e _ o (.inr rfl) z⟩
theorem SqIt.lt {h : Heap} {it l : Addr} {k : Nat} {xs : Array Value} (x : SqIt h it l k xs) : it < h.objs.size ∧ l < h.objs.size := by
  rcases x with ⟨⟨o, e, _⟩, o', e', _⟩ | ⟨⟨o, e, _⟩, o', e', _⟩
  · exact ⟨Heap.lt_size e, Heap.lt_size e'⟩
  · exact ⟨Heap.lt_size e, Heap.lt_size e'⟩
section
variable {prog : Program} {w : World} {A : Around} {E : Value → Shared → Prop} {s : Shared}
theorem sq_next {it l : Addr} {k : Nat} {xs : Array Value} {x : Value} {Q : Value → Shared → Prop} (h : SqIt s.heap it l k xs) (ne : l ≠ it) (hx : xs[k]? = some x)
    (hQ : ∀ h', SqIt h' it l (k + 1) xs → Heap.SameBut it s.heap h' → Q x { s with heap := h' }) : wpAny (model prog w) A (Builtin.SmallTypes.nextOf (.ref it)) Q E s := by
  rcases h with ⟨a, b⟩ | ⟨a, b⟩
  · exact wpAny_nextOf_list_item a b hx fun h' q sb => hQ h' (.inl ⟨q, b.at fun o z => sb.extBut _ o ne z⟩) sb
  · exact RZ.nextOf_tuple_item a b hx fun h' q sb => hQ h' (.inr ⟨q, b.at fun o z => sb.extBut _ o ne z⟩) sb
theorem sq_end {it l : Addr} {k : Nat} {xs : Array Value} {Q : Value → Shared → Prop} (calm : A.handled = none) (h : SqIt s.heap it l k xs) (hx : xs[k]? = none)
    (hE : ∀ h' e, Heap.ExtBut it s.heap h' → (∃ o, h'.get? e = some o ∧ o.cls = .type "StopIteration") → E (.ref e) { s with heap := h' }) : wpAny (model prog w) A (Builtin.SmallTypes.nextOf (.ref it)) Q E s := by
  rcases h with ⟨a, b⟩ | ⟨a, b⟩
  · exact wpAny_nextOf_list_end calm a b hx hE
  · exact RZ.nextOf_tuple_end calm a b hx hE
/-- both sources of a zip -/
structure Zs (h : Heap) (TI i1 i2 l1 l2 : Addr) (k : Nat) (xs ys : Array Value) : Prop where
  ti : IsPair h TI (.ref i1) (.ref i2)
  a : SqIt h i1 l1 k xs
  b : SqIt h i2 l2 k ys
variable {z TI TO i1 i2 l1 l2 : Addr} {k : Nat} {xs ys : Array Value} {x y a b : Value}
end
end RE
set_option maxHeartbeats 4000000
namespace RE
open PySem PySem.Spec PyProof.Rows L2
end RE
set_option maxHeartbeats 4000000
namespace RE
open PySem PySem.Spec PyProof.Rows L2
section
variable {prog : Program} {w : World}
theorem Zs.go {h h' : Heap} {TI i1 i2 l1 l2 : Addr} {k : Nat} {xs ys : Array Value} (S : Zs h TI i1 i2 l1 l2 k xs ys) (e : ∀ c o, c = TI ∨ c = i1 ∨ c = i2 ∨ c = l1 ∨ c = l2 → h.get? c = some o → h'.get? c = some o) : Zs h' TI i1 i2 l1 l2 k xs ys where
  ti := e _ _ (.inl rfl) S.ti
  a := S.a.go fun c o hc q => e c o (by rcases hc with r | r; exact .inr (.inl r); exact .inr (.inr (.inr (.inl r)))) q
  b := S.b.go fun c o hc q => e c o (by rcases hc with r | r; exact .inr (.inr (.inl r)); exact .inr (.inr (.inr (.inr r)))) q
variable {z TI TO i1 i2 l1 l2 d : Addr} {xs ys : Array Value}
end
end RE
set_option maxHeartbeats 4000000
namespace RE
open PySem PySem.Spec PyProof.Rows L2
section
variable {prog : Program} {w : World} {A : Around} {E : Value → Shared → Prop} {s : Shared}
/-- a list or a tuple -/
def LoT (h : Heap) (l : Addr) (xs : Array Value) : Prop := h.IsList l xs ∨ h.IsTuple l xs
theorem LoT.lt {h : Heap} {l : Addr} {xs : Array Value} (x : LoT h l xs) : l < h.objs.size := by
  rcases x with ⟨o, e, _⟩ | ⟨o, e, _⟩ <;> exact Heap.lt_size e
end
end RE
set_option maxHeartbeats 4000000
namespace RE
open PySem PySem.Spec PyProof.Rows L2
/-- pairs put one behind the other -/
def putAll (acc : List (List Key × V)) (L : List (List Key × V)) : List (List Key × V) := L.foldl (fun a p => putK a p.1 p.2) acc
theorem putAll_len : ∀ (L acc : List (List Key × V)), (putAll acc L).length ≤ acc.length + L.length
  | [], acc => Nat.le_refl _
  | p :: L, acc => by
    have h1 := putAll_len L (putK acc p.1 p.2)
    have h2 := length_putK acc p.1 p.2
    rw [List.length_cons]
    show (putAll (putK acc p.1 p.2) L).length ≤ _
    omega
theorem putAll_kt {H : Hp} : ∀ {L acc : List (List Key × V)} {ps xs : List (List Key × Addr × Value)}, L2.KT H acc xs → L2.KT H L ps → L2.KT H (putAll acc L) (storedAllH xs ps)
  | [], acc, _, xs, r, .nil => r
  | p :: L, acc, _, xs, r, .cons (b := q) h t => by
    show L2.KT H (putAll (putK acc p.1 p.2) L) (storedAllH (storedH xs q.1 q.2.1 q.2.2) _)
    rw [← h.1]
    exact putAll_kt (r.put p.1 h.2.1 h.2.2) t
/-- the keys xs and the values ys are the pairs L -/
def Zd (H : Hp) (xs ys : List V) (L : List (List Key × V)) : Prop := Paired (fun (x : V) (p : List Key × V) => ∃ c, x = V.ref c ∧ H c = some (.tup (p.1.map kV))) xs L ∧ L.map (·.2) = ys
theorem Zd.vals {H : Hp} : ∀ {xs ys : List V} {L : List (List Key × V)} {us rs : List Value}, Zd H xs ys L → Vals xs us → Vals ys rs →
    ∃ ps : List (List Key × Addr × Value), L2.KT H L ps ∧ ps.length = us.length ∧ us.length = rs.length ∧ ∀ (i : Nat) k v, us[i]? = some k → rs[i]? = some v → ∃ kk b, ps[i]? = some (kk, b, v) ∧ k = .ref b := by
  intro xs ys L
  induction xs generalizing ys L with
  | nil =>
    intro us rs h r1 r2
    obtain ⟨h, e⟩ := h
    cases h
    subst e
    cases r1
    cases r2
    exact ⟨[], .nil, rfl, rfl, fun i k v e => by simp at e⟩
  | cons x xs ih =>
    intro us rs h r1 r2
    obtain ⟨h, e⟩ := h
    cases h with
    | @cons _ p _ L hd tl =>
      subst e
      obtain ⟨c, rfl, hc⟩ := hd
      cases r1 with
      | @cons _ u _ us r1 t1 =>
        cases r2 with
        | @cons _ r _ rs r2 t2 =>
          obtain rfl : u = Value.ref c := r1
          obtain ⟨ps, k1, k2, k3, k4⟩ := ih ⟨tl, rfl⟩ t1 t2
          refine ⟨(p.1, c, r) :: ps, .cons ⟨rfl, hc, r2⟩ k1, by simp [k2], by simp [k3], fun i k v e1 e2 => ?_⟩
          cases i with
          | zero =>
            cases Option.some.inj e1
            cases Option.some.inj e2
            exact ⟨p.1, c, rfl, rfl⟩
          | succ i => exact k4 i k v (by simpa using e1) (by simpa using e2)
end RE
set_option maxHeartbeats 4000000
namespace RE
open PySem PySem.Spec PyProof.Rows L2
def putAllD (acc : List (List Key × D)) (L : List (List Key × D)) : List (List Key × D) := L.foldl (fun a p => putE a p.1 p.2) acc
theorem putAllD_ok {g : G} {A : Addr → Prop} {H : Hp} : ∀ {L : List (List Key × V)} {M : List (List Key × D)} {a : List (List Key × V)} {b : List (List Key × D)}, a.map (·.1) = b.map (·.1) → RpA g A H (a.map (·.2)) (b.map (·.2)) → L.map (·.1) = M.map (·.1) → RpA g A H (L.map (·.2)) (M.map (·.2)) →
    (putAll a L).map (·.1) = (putAllD b M).map (·.1) ∧ RpA g A H ((putAll a L).map (·.2)) ((putAllD b M).map (·.2))
  | [], [], a, b, e1, r1, _, _ => ⟨e1, r1⟩
  | [], _ :: _, _, _, _, _, e, _ => by cases e
  | _ :: _, [], _, _, _, _, e, _ => by cases e
  | p :: L, q :: M, a, b, e1, r1, e2, r2 => by
    obtain ⟨h1, h2⟩ := List.cons.inj e2
    obtain ⟨h3, h4⟩ := r2.uncons
    have h1 : p.1 = q.1 := h1
    obtain ⟨kp, p⟩ := p
    obtain ⟨kq, q⟩ := q
    have h1 : kp = kq := h1
    subst h1
    obtain ⟨k1, k2⟩ := putE_ok (k := kp) e1 r1 h3
    exact putAllD_ok (L := L) (M := M) k1 k2 h2 h4
end RE
set_option maxHeartbeats 4000000
namespace RE
open PySem PySem.Spec PyProof.Rows L2
end RE
set_option maxHeartbeats 4000000
namespace RE
open PySem PySem.Spec PyProof.Rows L2
def errB (K : PySem.W.Frag) (C i : Addr) (fs : List Str) : Bool := [decide (PySem.W.findIn K (.ref C) "__setattr__" = some (some (.builtin "object.__setattr__"))), decide (PySem.W.subIn K (.ref C) (.type "BaseException") = some true), decide (PySem.W.typeIn K (.ref C) = some (.type "type")), PySem.W.keepIn K (.ref C),
  decide (PySem.W.typeIn K (.ref i) = some (.type "function")), (PySem.W.clsIn K C).isSome, xfB K C, decide (PySem.W.findIn K (.ref C) "__class__" = some (some (.builtin "object.__class__"))), decide (PySem.W.specialIn K (.builtin "object.__class__") "__get__" = some (some (.builtin "getset_descriptor.__get__"))),
  decide (PySem.W.takesIn K (.builtin "object.__class__") = some true), decide (PySem.W.mroIn K C (.type "object") = some true), fs.all fun f => decide (PySem.W.findIn K (.ref C) f = some none)].all id
structure ErrOk (K : PySem.W.Frag) (C i : Addr) (fs : List Str) : Prop where
  setA : PySem.W.findIn K (.ref C) "__setattr__" = some (some (.builtin "object.__setattr__"))
  isE : PySem.W.subIn K (.ref C) (.type "BaseException") = some true
  isT : PySem.W.typeIn K (.ref C) = some (.type "type")
  kept : PySem.W.keepIn K (.ref C) = true
  fn : PySem.W.typeIn K (.ref i) = some (.type "function")
  su : SuC K C
  no : ∀ f ∈ fs, PySem.W.findIn K (.ref C) f = some none
theorem errB_ok {K : PySem.W.Frag} {C i : Addr} {fs : List Str} (h : errB K C i fs = true) : ErrOk K C i fs := by
  unfold errB at h
  simp only [List.all_cons, List.all_nil, id, Bool.and_eq_true, Bool.and_true] at h
  obtain ⟨h1, h2, h3, h4, h5, h6, h7, h8, h9, h10, h11, h12⟩ := h
  exact ⟨of_decide_eq_true h1, of_decide_eq_true h2, of_decide_eq_true h3, h4, of_decide_eq_true h5, ⟨h6, xfB_ok h7, of_decide_eq_true h8, of_decide_eq_true h9, of_decide_eq_true h10, of_decide_eq_true h11⟩, fun f hf => of_decide_eq_true (List.all_eq_true.mp h12 f hf)⟩
end RE
set_option maxHeartbeats 4000000
namespace RE
open PySem PySem.Spec PyProof.Rows L2
def cellsBody : MS := (mSeq (mAsg 5 (mBin modD (mFun intD (mCons (mVarF 3) mNil)) (mVarF 1)))
    (mPutL 2 (mVarF 5) (mBin addD (mIxB 2 (mVarF 5)) (mBin mulD (mVarF 4) (mBin addD (mVarF 3) (mC (.int 2)))))))
def cellsM : MS := (mSeq (mSetF 2 (fOr (fList (mSl (mVarF 0) mPN (mPS (mVarF 1)))) (fLst (mCons (mC (.int 0)) mNil))))
    (mSeq (mFor (miFun enumF (mCons (mSl (mVarF 0) (mPS (mVarF 1)) (mPS (mC (.int 63)))) mNil)) (tgTup [3, 4]) cellsBody)
    (mRet (mVarF 2))))
theorem cut_ints (ns : List Int) (l u : Option Int) : ∃ ms : List Int, cutD (ns.map .int) l u = ms.map .int ∧ ms.length ≤ ns.length := by
  unfold cutD
  rw [← List.map_drop, ← List.map_take]
  exact ⟨_, rfl, by rw [List.length_take, List.length_drop]; omega⟩
theorem bin_at {f : D → D → Option D} {ma mb : M} {st st1 st2 : S} {a b d : D} (h1 : ma st = .ok a st1) (h2 : mb st1 = .ok b st2) (h3 : f a b = some d) : mBin f ma mb st = .ok d st2 := by
  unfold mBin
  rw [h1]
  show bindO (mb st1) _ = _
  rw [h2]
  show optO (f a b) st2 = _
  rw [h3]
  rfl
theorem asg_at {i : Nat} {m : M} {st st1 : S} {d : D} (h : m st = .ok d st1) : mAsg i m st = .nx (st1.put i (.d d)) := by
  unfold mAsg bindS
  rw [h]
theorem seq_at {a b : MS} {st st1 : S} (h : a st = .nx st1) : mSeq a b st = b st1 := by
  unfold mSeq seqS
  rw [h]
theorem ret_at {m : M} {st st1 : S} {d : D} (h : m st = .ok d st1) : mRet m st = .rt d st1 := by
  unfold mRet bindS
  rw [h]
theorem mod1 (k : Int) : modD (.int k) (.int 1) = some (.int 0) := by
  show (if (0 : Int) < 1 then some (D.int (k % 1)) else none) = _
  rw [if_pos (by decide), Int.emod_one]
theorem mul_at (x j : Int) (h : smallI j = true) : mulD (.int x) (.int j) = some (.int (x * j)) := by
  show (if smallI j = true then some (D.int (x * j)) else none) = _
  rw [if_pos h]
theorem small_at {i : Int} (h1 : -18446744073709551616 < i) (h2 : i < 18446744073709551616) : smallI i = true := by
  unfold smallI
  rw [decide_eq_true h1, decide_eq_true h2]
  rfl
abbrev cS (ds : D) (s3 s4 s5 : Sl) (c : Int) : S := ⟨[.d ds, .d (.int 1), .rf 0, s3, s4, s5], [.l [.int c]]⟩
theorem cells_turn (ds : D) (k x c : Int) (s5 : Sl) (h0 : 0 ≤ k) (hk : k < 100) : cellsBody (cS ds (.d (.int k)) (.d (.int x)) s5 c) = .nx (cS ds (.d (.int k)) (.d (.int x)) (.d (.int 0)) (c + x * (k + 2))) := by
  have a1 : (mAsg 5 (mBin modD (mFun intD (mCons (mVarF 3) mNil)) (mVarF 1))) (cS ds (.d (.int k)) (.d (.int x)) s5 c) = .nx (cS ds (.d (.int k)) (.d (.int x)) (.d (.int 0)) c) := asg_at (bin_at rfl rfl (mod1 k))
  have a2 : (mBin mulD (mVarF 4) (mBin addD (mVarF 3) (mC (.int 2)))) (cS ds (.d (.int k)) (.d (.int x)) (.d (.int 0)) c) = .ok (.int (x * (k + 2))) (cS ds (.d (.int k)) (.d (.int x)) (.d (.int 0)) c) :=
    bin_at rfl (bin_at rfl rfl rfl) (mul_at x (k + 2) (small_at (by omega) (by omega)))
  have a3 : (mBin addD (mIxB 2 (mVarF 5)) (mBin mulD (mVarF 4) (mBin addD (mVarF 3) (mC (.int 2))))) (cS ds (.d (.int k)) (.d (.int x)) (.d (.int 0)) c) = .ok (.int (c + x * (k + 2))) (cS ds (.d (.int k)) (.d (.int x)) (.d (.int 0)) c) := bin_at rfl a2 rfl
  unfold cellsBody
  rw [seq_at a1]
  unfold mPutL bindS
  rw [a3]
  rfl
theorem cells_loop (ds : D) : ∀ (es : List Int) (k : Nat) (c : Int) (s3 s4 s5 : Sl), k + es.length ≤ 100 → ∃ c' s3' s4' s5', loopS (tgTup [3, 4]) cellsBody (enumFrom k (es.map .int)) (cS ds s3 s4 s5 c) = .nx (cS ds s3' s4' s5' c')
  | [], k, c, s3, s4, s5, _ => ⟨c, s3, s4, s5, rfl⟩
  | x :: es, k, c, s3, s4, s5, h => by
    have h : k + (es.length + 1) ≤ 100 := h
    obtain ⟨c', u3, u4, u5, e3⟩ := cells_loop ds es (k + 1) (c + x * (k + 2)) (.d (.int k)) (.d (.int x)) (.d (.int 0)) (by omega)
    refine ⟨c', u3, u4, u5, ?_⟩
    show loopS (tgTup [3, 4]) cellsBody (.tup [.int k, .int x] :: enumFrom (k + 1) (es.map .int)) _ = _
    unfold loopS
    have e1 : tgTup [3, 4] (.tup [.int k, .int x]) (cS ds s3 s4 s5 c) = some (cS ds (.d (.int k)) (.d (.int x)) s5 c) := rfl
    rw [e1]
    simp only [cells_turn ds k x c s5 (Int.natCast_nonneg k) (by omega)]
    exact e3
theorem cells1 (ns : List Int) (hl : ns.length ≤ 63) : ∃ c st, cellsM (S.start [.d (.ks (ns.map .int)), .d (.int 1)] 6 []) = .rt (.lst [.int c]) st := by
  obtain ⟨ms, em, lm⟩ := cut_ints ns (some 1) (some 63)
  have first : ∃ c, (fOr (fList (mSl (mVarF 0) mPN (mPS (mVarF 1)))) (fLst (mCons (mC (.int 0)) mNil))) (S.start [.d (.ks (ns.map .int)), .d (.int 1)] 6 []) = .ok [.int c] (S.start [.d (.ks (ns.map .int)), .d (.int 1)] 6 []) := by
    cases ns with
    | nil => exact ⟨0, rfl⟩
    | cons n ns =>
      refine ⟨n, ?_⟩
      have e : cutD ((n :: ns).map .int) none (some 1) = [.int n] := by
        unfold cutD
        have q : HT.sIx ((n :: ns).map D.int).length ((n :: ns).map D.int).length (some 1) = 1 := by
          show (if (1 : Int) < 0 then ((1 : Int) + (((n :: ns).map D.int).length : Nat)).toNat else min (1 : Int).toNat ((n :: ns).map D.int).length) = 1
          rw [if_neg (by decide), List.length_map, List.length_cons]
          show min 1 (ns.length + 1) = 1
          omega
        rw [q]
        rfl
      show bindO (optO (seqD (.lst (cutD ((n :: ns).map .int) none (some 1)))) _) _ = _
      rw [e]
      rfl
  obtain ⟨c, e⟩ := first
  obtain ⟨c', s3, s4, s5, e2⟩ := cells_loop (.ks (ns.map .int)) ms 0 c .no .no .no (by omega)
  have e1 : (mSetF 2 (fOr (fList (mSl (mVarF 0) mPN (mPS (mVarF 1)))) (fLst (mCons (mC (.int 0)) mNil)))) (S.start [.d (.ks (ns.map .int)), .d (.int 1)] 6 []) = .nx (cS (.ks (ns.map .int)) .no .no .no c) := by
    unfold mSetF bindS
    rw [e]
    rfl
  have e3 : (mFor (miFun enumF (mCons (mSl (mVarF 0) (mPS (mVarF 1)) (mPS (mC (.int 63)))) mNil)) (tgTup [3, 4]) cellsBody) (cS (.ks (ns.map .int)) .no .no .no c) = .nx (cS (.ks (ns.map .int)) s3 s4 s5 c') := by
    show loopS (tgTup [3, 4]) cellsBody (enumFrom 0 (cutD (ns.map .int) (some 1) (some 63))) (cS (.ks (ns.map .int)) .no .no .no c) = _
    rw [em]
    exact e2
  have e4 : cellsM (S.start [.d (.ks (ns.map .int)), .d (.int 1)] 6 []) = mRet (mVarF 2) (cS (.ks (ns.map .int)) s3 s4 s5 c') := by
    unfold cellsM
    rw [seq_at e1, seq_at e3]
  exact ⟨c', _, e4.trans (ret_at rfl)⟩
/-- the first number of the script with the later ones added, as the calls tell it -/
theorem cells_call (ns : List Int) (hl : ns.length ≤ 63) (st : S) : ∃ c, runD cellsM 6 [.ks (ns.map .int), .int 1] st = .ok (.lst [.int c]) st := by
  obtain ⟨c, st', e⟩ := cells1 ns hl
  refine ⟨c, ?_⟩
  have e : cellsM (S.start ([D.ks (ns.map .int), D.int 1].map .d) 6 []) = .rt (.lst [.int c]) st' := e
  unfold runD
  rw [e]
end RE
set_option maxHeartbeats 4000000
namespace RE
open PySem PySem.Spec PyProof.Rows L2
def boxM : MS := (mAsg 2 (mIfE (mB (mBin ltD (mVarF 1) (mFun lenD (mCons (mVarF 0) mNil)))) (mBin ixD (mVarF 0) (mVarF 1)) (mC (.int 0))))
def boxF (seed : Int) : MA := (fLst (mCons (mBin mulD (mFun absD (mCons (mVarF 2) mNil)) (mFun intD (mCons (mBin geD (mFun absD (mCons (mVarF 2) mNil)) (mBin powD (mC (.int 10)) (mC (.int 18)))) mNil))) (mCons (mBin addD (mBin addD (mBin modD (mFun intD (mCons (mVarF 2) mNil)) (mC (.int 2305843009213693951))) (mBin mulD (mC (.int 39373)) (mVarF 1))) (mC (.int seed))) (mCons (mC (.int 0)) mNil))))
theorem if_t {t : MT} {a b : MS} {st st1 : S} (h : t st = .ok true st1) : mIf t a b st = a st1 := by
  unfold mIf bindS
  rw [h]
  rfl
theorem if_f {t : MT} {a b : MS} {st st1 : S} (h : t st = .ok false st1) : mIf t a b st = b st1 := by
  unfold mIf bindS
  rw [h]
  rfl
theorem if_n {t : MT} {a : MS} {st st1 : S} (h : t st = .ok false st1) : mIf t a mSkip st = .nx st1 := if_f h
theorem seq_rt {a b : MS} {st st1 : S} {d : D} (h : a st = .rt d st1) : mSeq a b st = .rt d st1 := by
  unfold mSeq seqS
  rw [h]
theorem b_at {m : M} {st st1 : S} {k : Bool} (h : m st = .ok (.bl k) st1) : mB m st = .ok k st1 := by
  unfold mB bindO
  rw [h]
theorem fun_at {f : List D → Option D} {ms : MA} {st st1 : S} {ds : List D} {d : D} (h : ms st = .ok ds st1) (e : f ds = some d) : mFun f ms st = .ok d st1 := by
  unfold mFun bindO
  rw [h]
  show optO (f ds) st1 = _
  rw [e]
  rfl
theorem cons_at {m : M} {ms : MA} {st st1 st2 : S} {d : D} {ds : List D} (h : m st = .ok d st1) (e : ms st1 = .ok ds st2) : mCons m ms st = .ok (d :: ds) st2 := by
  unfold mCons
  rw [h]
  show bindO (ms st1) _ = _
  rw [e]
  rfl
theorem mod_at (i n : Int) (h : 0 < n) : modD (.int i) (.int n) = some (.int (i % n)) := by
  show (if 0 < n then some (D.int (i % n)) else none) = _
  rw [if_pos h]
theorem div_at (i n : Int) (h : 0 < n) (h2 : n < 1073741824) : divD (.int i) (.int n) = some (.int (i / n)) := by
  show (if 0 < n ∧ n < 1073741824 then some (D.int (i / n)) else none) = _
  rw [if_pos ⟨h, h2⟩]
abbrev bS (c : Int) : S := ⟨[.d (.lst [.int c]), .d (.int 0), .d (.int c)], []⟩
/-- the source made of the number c -/
theorem box_call (seed c : Int) (st : S) : ∃ a b, runFr boxM (boxF seed) 3 [.lst [.int c], .int 0] st = .ok [.int a, .int b, .int 0] st := by
  have e1 : boxM (S.start ([D.lst [.int c], D.int 0].map .d) 3 []) = .nx (bS c) := rfl
  have ab : (mFun absD (mCons (mVarF 2) mNil)) (bS c) = .ok (.int (if c < 0 then -c else c)) (bS c) := rfl
  have pw : (mBin powD (mC (.int 10)) (mC (.int 18))) (bS c) = .ok (.int 1000000000000000000) (bS c) := bin_at rfl rfl (by rfl)
  generalize hy : (if c < 0 then -c else c) = y at ab
  have ge : (mFun intD (mCons (mBin geD (mFun absD (mCons (mVarF 2) mNil)) (mBin powD (mC (.int 10)) (mC (.int 18)))) mNil)) (bS c) = .ok (.int (if (decide ((1000000000000000000 : Int) ≤ y)) then 1 else 0)) (bS c) :=
    fun_at (cons_at (bin_at ab pw rfl) rfl) rfl
  have sm : smallI (if (decide ((1000000000000000000 : Int) ≤ y)) then 1 else 0) = true := by
    cases decide ((1000000000000000000 : Int) ≤ y) <;> decide
  generalize (if (decide ((1000000000000000000 : Int) ≤ y)) then (1 : Int) else 0) = z at ge sm
  have p1 : (mBin mulD (mFun absD (mCons (mVarF 2) mNil)) (mFun intD (mCons (mBin geD (mFun absD (mCons (mVarF 2) mNil)) (mBin powD (mC (.int 10)) (mC (.int 18)))) mNil))) (bS c) = .ok (.int (y * z)) (bS c) := bin_at ab ge (mul_at y z sm)
  have p2 : (mBin addD (mBin addD (mBin modD (mFun intD (mCons (mVarF 2) mNil)) (mC (.int 2305843009213693951))) (mBin mulD (mC (.int 39373)) (mVarF 1))) (mC (.int seed))) (bS c) = .ok (.int (c % 2305843009213693951 + 39373 * 0 + seed)) (bS c) :=
    bin_at (bin_at (bin_at rfl rfl (mod_at c 2305843009213693951 (by decide))) (bin_at rfl rfl (mul_at 39373 0 (by decide))) rfl) rfl rfl
  refine ⟨y * z, c % 2305843009213693951 + 39373 * 0 + seed, ?_⟩
  have e2 : boxF seed (bS c) = .ok [.int (y * z), .int (c % 2305843009213693951 + 39373 * 0 + seed), .int 0] (bS c) := by
    unfold boxF fLst
    rw [cons_at p1 (cons_at p2 (show (mCons (mC (.int 0)) mNil) (bS c) = .ok [.int 0] (bS c) from rfl))]
    rfl
  unfold runFr
  rw [e1]
  show (match boxF seed (bS c) with
    | O.ok es _ => O.ok es st
    | _ => O.no) = _
  rw [e2]
abbrev dS (n : Int) (s2 s3 s4 s5 : Sl) (a b t : Int) : S := ⟨[.rf 0, .d (.int n), s2, s3, s4, s5], [.l [.int a, .int b, .int t]]⟩
end RE
set_option maxHeartbeats 4000000
namespace RE
open PySem PySem.Spec PyProof.Rows L2
theorem call0_at {ms : MS} {n : Nat} (h : trueS (ms (S.start [] n [])) = true) (st : S) : mCall ms n [] mNil st = .ok (.bl true) st := by
  show runD ms n [] st = _
  unfold runD
  unfold trueS at h
  split at h
  · rename_i st' e
    have e : ms (S.start (([] : List D).map .d) n []) = .rt (.bl true) st' := e
    rw [e]
  · cases h
theorem tru_at {m : M} {st st1 : S} {d : D} {b : Bool} (h : m st = .ok d st1) (e : truD d = some b) : mTru m st = .ok b st1 := by
  unfold mTru bindO
  rw [h]
  show (match truD d with
    | some b => O.ok b st1
    | none => O.no) = _
  rw [e]
theorem not_at {t : MT} {st st1 : S} {b : Bool} (h : t st = .ok b st1) : mNotT t st = .ok (!b) st1 := by
  unfold mNotT bindO
  rw [h]
end RE
set_option maxHeartbeats 4000000
namespace RE
open PySem PySem.Spec PyProof.Rows L2
theorem PG.or {X : Cx} {tg : Expr} {t u : TG} (a : PG X tg t) (b : PG X tg u) : PG X tg (fun v σ H Q => t v σ H Q ∨ u v σ H Q) :=
  ⟨fun pq s σ H x y Q I r h => h.elim (fun q => a.run pq s σ H x y Q I r q) fun q => b.run pq s σ H x y Q I r q⟩
def gTL (K : PySem.W.Frag) (n : Nat) (t : TGs) : TG := fun v σ H Q => gTup K n t v σ H Q ∨ gUnl K n t v σ H Q
theorem pg_tl {X : Cx} {es : List Expr} {k : Nat} {pos : Pos} {t : TGs} {n : Nat} (hc : X.calm = true) (h : PGs X es t) (many : (assignEach es X.env).length = n := by rfl) (flat : (assignEach es X.env).findIdx? (·.1) = none := by rfl) : PG X (.Tuple es k pos) (gTL X.K n t) := PG.or (pg_tup hc h many flat) (pg_unl hc h many flat)
def tgTL (is : List Nat) : Tg := fun d st => match d with
  | .lst ds => putsD is ds st
  | _ => tgTup is d st
theorem gok_tl {g : G} (is : List Nat) : GOk g (tgTL is) (gTL g.K is.length (gNames is)) is := by
  intro ρ σ H st x d st' Q e s r k
  have hl : ∀ (is : List Nat) (ds : List D) (st st' : S), putsD is ds st = some st' → ds.length = is.length := by
    intro is
    induction is with
    | nil => intro ds st st' h; cases ds with
      | nil => rfl
      | cons _ _ => cases h
    | cons i is ih => intro ds st st' h; cases ds with
      | nil => cases h
      | cons d ds => show ds.length + 1 = is.length + 1; rw [ih ds _ _ h]
  cases d with
  | lst ds =>
    obtain ⟨a, xs, rfl, ha, _, ra⟩ := r.inv_lst
    exact .inr ⟨a, xs, rfl, SqL.of ha, by rw [ra.1]; exact hl is ds st st' e, gok_names is ρ σ H st xs ds st' Q e s ra k⟩
  | tup ds => exact .inl (gok_tup (g := g) is ρ σ H st x (.tup ds) st' Q e s r k)
  | kt ds => exact .inl (gok_tup (g := g) is ρ σ H st x (.kt ds) st' Q e s r k)
  | _ => cases e
end RE
set_option maxHeartbeats 4000000
namespace RE
open PySem PySem.Spec PyProof.Rows L2
def keyDat : Key → D
  | .inl i => .int i
  | .inr s => .str s
theorem keyDat_rp {g : G} {A : Addr → Prop} {H : Hp} : ∀ k : Key, Rp g A H (kV k) (keyDat k)
  | .inl i => .int i
  | .inr s => .str s
theorem keysDat_rp {g : G} {A : Addr → Prop} {H : Hp} : ∀ ks : List Key, RpA g A H (ks.map kV) (ks.map keyDat)
  | [] => RpA.nil
  | k :: ks => RpA.cons (keyDat_rp k) (keysDat_rp ks)
/-- what a dict gives that is walked -/
def keysOf : D → Option (List D)
  | .dT kvs => some (kvs.map fun p => .tup (p.1.map keyDat))
  | .dK kvs => some (kvs.map fun p => keyDat p.1)
  | _ => none
def isDct : HO → Prop
  | .dK _ => True
  | .dT _ => True
  | _ => False
section
variable {g : G} {ER : EK} {ρ ρ' : Rh} {σ σ' : L2.St} {st st' : S} {H H' : Hp} {A : Addr → Prop} {d : Addr} {u : HO} {od : Obj}
theorem rd_lock {b : Addr} {v : HO} (hd : H d = some u) (hu : isDct u) (h : Rd H b v) : Rd (upd H d (.frz od u)) b v := by
  by_cases e : b = d
  · subst e
    rcases h with h | ⟨o, h⟩
    · rw [hd] at h
      cases Option.some.inj h
      exact .inr ⟨od, upd_same⟩
    · rw [hd] at h
      cases Option.some.inj h
      cases hu
  · rcases h with h | ⟨o, h⟩
    · exact .inl (by rw [upd_ne e]; exact h)
    · exact .inr ⟨o, by rw [upd_ne e]; exact h⟩
theorem Rp.lock {v : V} {x : D} (hd : H d = some u) (hu : isDct u) (r : Rp g A H v x) : Rp g A (upd H d (.frz od u)) v x := by
  have off : ∀ {b : Addr} {o : HO}, H b = some o → ¬ isDct o → b ≠ d := fun h n e => by
    subst e
    rw [hd] at h
    cases Option.some.inj h
    exact n hu
  induction r with
  | non => exact .non
  | bl b => exact .bl b
  | int i => exact .int i
  | str s => exact .str s
  | lst h na hl _ ih => exact .lst (by rw [upd_ne (off h id)]; exact h) na hl ih
  | tup h na hl _ ih => exact .tup (by rw [upd_ne (off h id)]; exact h) na hl ih
  | ktup h hl _ ih =>
    refine .ktup ?_ hl ih
    rcases h with h | ⟨o, h, e, n⟩
    · exact .inl h
    · exact .inr ⟨o, by rw [upd_ne (off h id)]; exact h, e, n⟩
  | kls h na hl _ ih => exact .kls (by rw [upd_ne (off h id)]; exact h) na hl ih
  | klw h hl _ ih => exact .klw h hl ih
  | dK h na hl hk _ ih => exact .dK (rd_lock hd hu h) na hl hk ih
  | dT h na hl hk _ ih => exact .dT (rd_lock hd hu h) na hl hk ih
  | fn i => exact .fn i
  | ob h na hl hk _ ih => exact .ob (by rw [upd_ne (off h id)]; exact h) na hl hk ih
theorem RpA.lock {v : List V} {x : List D} (hd : H d = some u) (hu : isDct u) (r : RpA g A H v x) : RpA g A (upd H d (.frz od u)) v x := ⟨r.1, fun i y e h1 h2 => (r.2 i y e h1 h2).lock hd hu⟩
theorem SlA.lock {ad : List Addr} {vs : List V} {ss : List Sl} (hd : H d = some u) (hu : isDct u) (h : SlA g A ad H vs ss) : SlA g A ad (upd H d (.frz od u)) vs ss :=
  ⟨h.1, fun i v s h1 h2 => by
    have q := h.2 i v s h1 h2
    cases s with
    | no => exact q
    | d x => exact Rp.lock hd hu q
    | rf j => exact q⟩
theorem CeOk.lock {ad : List Addr} {a : Addr} {c : Ce} (hd : H d = some u) (hu : isDct u) (ne : a ≠ d) (h : CeOk g A ad H a c) : CeOk g A ad (upd H d (.frz od u)) a c := by
  cases c with
  | dN ds => obtain ⟨xs, e, q, r, z⟩ := h; exact ⟨xs, by rw [upd_ne ne]; exact e, q, r.lock hd hu, z.lock hd hu⟩
  | rK ds => obtain ⟨xs, e, q, r⟩ := h; exact ⟨xs, by rw [upd_ne ne]; exact e, q, r⟩
  | rT ds => obtain ⟨xs, e, q, r⟩ := h; exact ⟨xs, by rw [upd_ne ne]; exact e, q, r⟩
  | o c fs => obtain ⟨dx, xs, e, q, r⟩ := h; exact ⟨dx, xs, by rw [upd_ne ne]; exact e, q, r.lock hd hu⟩
  | dead => trivial
  | l ds => obtain ⟨xs, e, r⟩ := h; exact ⟨xs, by rw [upd_ne ne]; exact e, r.lock hd hu⟩
  | dK ds => obtain ⟨xs, e, q, r⟩ := h; exact ⟨xs, by rw [upd_ne ne]; exact e, q, r.lock hd hu⟩
  | dT ds => obtain ⟨xs, e, q, r⟩ := h; exact ⟨xs, by rw [upd_ne ne]; exact e, q, r.lock hd hu⟩
theorem Sim.lock (s : Sim g ρ σ H st) (hd : H d = some u) (hu : isDct u) (nv : ¬ Vol ρ st d) : Sim g ρ σ (upd H d (.frz od u)) st where
  uok := fun a h => by
    obtain ⟨o, e, nt⟩ := s.uok a h
    exact ⟨o, by rw [upd_ne fun z => nv (by rw [← z]; exact .inl h)]; exact e, nt⟩
  clen := s.clen
  cell := fun k c a h1 h2 => by
    by_cases al : c.alive = true
    · exact (s.cell k c a h1 h2).lock hd hu fun z => nv (by rw [← z]; exact .inr ⟨k, c, h1, al, h2⟩)
    · cases c <;> first | trivial | exact absurd rfl al
  inj := s.inj
  out := s.out
  len := s.len
  slot := fun i sl v h1 h2 => by
    have q := s.slot i sl v h1 h2
    cases sl with
    | no => trivial
    | d x => obtain ⟨w, e, r⟩ := q; exact ⟨w, e, r.lock hd hu⟩
    | rf k => exact q
theorem rd_free {b : Addr} {v : HO} (hd : H d = some (.frz od u)) (hv : isDct v) (h : Rd H b v) : Rd (upd H d u) b v := by
  by_cases e : b = d
  · subst e
    rcases h with h | ⟨o, h⟩
    · rw [hd] at h
      cases Option.some.inj h
      cases hv
    · rw [hd] at h
      cases Option.some.inj h
      exact .inl upd_same
  · rcases h with h | ⟨o, h⟩
    · exact .inl (by rw [upd_ne e]; exact h)
    · exact .inr ⟨o, by rw [upd_ne e]; exact h⟩
theorem Rp.free {v : V} {x : D} (hd : H d = some (.frz od u)) (hu : isDct u) (r : Rp g A H v x) : Rp g A (upd H d u) v x := by
  have off : ∀ {b : Addr} {o : HO}, H b = some o → o ≠ .frz od u → b ≠ d := fun h n e => by
    subst e
    rw [hd] at h
    exact n (Option.some.inj h).symm
  induction r with
  | non => exact .non
  | bl b => exact .bl b
  | int i => exact .int i
  | str s => exact .str s
  | lst h na hl _ ih => exact .lst (by rw [upd_ne (off h fun z => nomatch z)]; exact h) na hl ih
  | tup h na hl _ ih => exact .tup (by rw [upd_ne (off h fun z => nomatch z)]; exact h) na hl ih
  | ktup h hl _ ih =>
    refine .ktup ?_ hl ih
    rcases h with h | ⟨o, h, e, n⟩
    · exact .inl h
    · exact .inr ⟨o, by rw [upd_ne (off h fun z => by injection z with _ z; rw [← z] at hu; exact hu)]; exact h, e, n⟩
  | kls h na hl _ ih => exact .kls (by rw [upd_ne (off h fun z => by injection z with _ z; rw [← z] at hu; exact hu)]; exact h) na hl ih
  | klw h hl _ ih => exact .klw h hl ih
  | dK h na hl hk _ ih => exact .dK (rd_free hd trivial h) na hl hk ih
  | dT h na hl hk _ ih => exact .dT (rd_free hd trivial h) na hl hk ih
  | fn i => exact .fn i
  | ob h na hl hk _ ih => exact .ob (by rw [upd_ne (off h fun z => nomatch z)]; exact h) na hl hk ih
theorem RpA.free {v : List V} {x : List D} (hd : H d = some (.frz od u)) (hu : isDct u) (r : RpA g A H v x) : RpA g A (upd H d u) v x := ⟨r.1, fun i y e h1 h2 => (r.2 i y e h1 h2).free hd hu⟩
theorem SlA.free {ad : List Addr} {vs : List V} {ss : List Sl} (hd : H d = some (.frz od u)) (hu : isDct u) (h : SlA g A ad H vs ss) : SlA g A ad (upd H d u) vs ss :=
  ⟨h.1, fun i v s h1 h2 => by
    have q := h.2 i v s h1 h2
    cases s with
    | no => exact q
    | d x => exact Rp.free hd hu q
    | rf j => exact q⟩
theorem CeOk.free {ad : List Addr} {a : Addr} {c : Ce} (hd : H d = some (.frz od u)) (hu : isDct u) (ne : a ≠ d) (h : CeOk g A ad H a c) : CeOk g A ad (upd H d u) a c := by
  cases c with
  | dN ds => obtain ⟨xs, e, q, r, z⟩ := h; exact ⟨xs, by rw [upd_ne ne]; exact e, q, r.free hd hu, z.free hd hu⟩
  | rK ds => obtain ⟨xs, e, q, r⟩ := h; exact ⟨xs, by rw [upd_ne ne]; exact e, q, r⟩
  | rT ds => obtain ⟨xs, e, q, r⟩ := h; exact ⟨xs, by rw [upd_ne ne]; exact e, q, r⟩
  | o c fs => obtain ⟨dx, xs, e, q, r⟩ := h; exact ⟨dx, xs, by rw [upd_ne ne]; exact e, q, r.free hd hu⟩
  | dead => trivial
  | l ds => obtain ⟨xs, e, r⟩ := h; exact ⟨xs, by rw [upd_ne ne]; exact e, r.free hd hu⟩
  | dK ds => obtain ⟨xs, e, q, r⟩ := h; exact ⟨xs, by rw [upd_ne ne]; exact e, q, r.free hd hu⟩
  | dT ds => obtain ⟨xs, e, q, r⟩ := h; exact ⟨xs, by rw [upd_ne ne]; exact e, q, r.free hd hu⟩
theorem Sim.free (s : Sim g ρ σ H st) (hd : H d = some (.frz od u)) (hu : isDct u) (nv : ¬ Vol ρ st d) : Sim g ρ σ (upd H d u) st where
  uok := fun a h => by
    obtain ⟨o, e, nt⟩ := s.uok a h
    exact ⟨o, by rw [upd_ne fun z => nv (by rw [← z]; exact .inl h)]; exact e, nt⟩
  clen := s.clen
  cell := fun k c a h1 h2 => by
    by_cases al : c.alive = true
    · exact (s.cell k c a h1 h2).free hd hu fun z => nv (by rw [← z]; exact .inr ⟨k, c, h1, al, h2⟩)
    · cases c <;> first | trivial | exact absurd rfl al
  inj := s.inj
  out := s.out
  len := s.len
  slot := fun i sl v h1 h2 => by
    have q := s.slot i sl v h1 h2
    cases sl with
    | no => trivial
    | d x => obtain ⟨w, e, r⟩ := q; exact ⟨w, e, r.free hd hu⟩
    | rf k => exact q
theorem Ext.free (e : Ext ρ st (upd H d (.frz od u)) ρ' st' H') (hd : H d = some u) (nv : ¬ Vol ρ st d) : Ext ρ st H ρ' st' (upd H' d u) where
  keep := fun a o h n => by
    by_cases z : a = d
    · subst z
      rw [hd] at h
      cases Option.some.inj h
      exact ⟨upd_same, (e.keep a _ upd_same n).2⟩
    · obtain ⟨h1, h2⟩ := e.keep a o (by rw [upd_ne z]; exact h) n
      exact ⟨by rw [upd_ne z]; exact h1, h2⟩
  pre := e.pre
  same := e.same
  un := fun a h => by
    have z : a ≠ d := fun z => nv (by rw [← z]; exact .inl h)
    rw [upd_ne z, e.un a h, upd_ne z]
  more := fun a v => by
    rcases e.more a v with q | q
    · exact .inl q
    · by_cases z : a = d
      · rw [z, upd_same] at q; cases q
      · rw [upd_ne z] at q; exact .inr q
  mono := fun a h => by
    by_cases z : a = d
    · rw [z, upd_same] at h; cases h
    · rw [upd_ne z] at h
      have q := e.mono a h
      rw [upd_ne z] at q
      exact q
def endL (E : Ends) (d : Addr) (od : Obj) (u : HO) : Ends := ⟨fun σ' H' => H' d = some (.frz od u) ∧ E.nx σ' (upd H' d u), fun v H' => H' d = some (.frz od u) ∧ E.rt v (upd H' d u), fun σ' H' => H' d = some (.frz od u) ∧ E.bk σ' (upd H' d u), fun σ' H' => H' d = some (.frz od u) ∧ E.ct σ' (upd H' d u)⟩
/-- the same with errors never told -/
def noEr : SO → SO
  | .er _ _ _ => .no
  | o => o
theorem OutS.locked {o : SO} {E : Ends} (hd : H d = some u) (hu : isDct u) (nv : ¬ Vol ρ st d) (h : OutS g ER ρ st H (noEr o) E) : OutS g ER ρ st (upd H d (.frz od u)) o (endL E d od u) := by
  have at' : ∀ {ρ' : Rh} {st' : S} {H' : Hp}, Ext ρ st (upd H d (.frz od u)) ρ' st' H' → H' d = some (.frz od u) ∧ ¬ Vol ρ' st' d := fun e => e.keep d _ upd_same nv
  cases o with
  | nx st' => exact fun ρ' σ' H' e s => ⟨(at' e).1, h ρ' σ' _ (e.free hd nv) (s.free (at' e).1 hu (at' e).2)⟩
  | rt x st' => exact fun ρ' σ' H' v e s r => ⟨(at' e).1, h ρ' σ' _ v (e.free hd nv) (s.free (at' e).1 hu (at' e).2) (r.free (at' e).1 hu)⟩
  | bk st' => exact fun ρ' σ' H' e s => ⟨(at' e).1, h ρ' σ' _ (e.free hd nv) (s.free (at' e).1 hu (at' e).2)⟩
  | ct st' => exact fun ρ' σ' H' e s => ⟨(at' e).1, h ρ' σ' _ (e.free hd nv) (s.free (at' e).1 hu (at' e).2)⟩
  | er c vs st' => exact h.elim
  | no => exact h.elim
theorem it_keysT {kvs : List (List Key × V)} {ds : List (List Key × D)} (h : H d = some (.frz od (.dT kvs))) (nv : ¬ Vol ρ st d) (e : kvs.map (·.1) = ds.map (·.1)) : ItOk g ρ st H (Itkt d od kvs) (ds.map fun p => .tup (p.1.map keyDat)) := fun B H' k hB i => by
  have hs := (k d _ h nv).1
  have len : kvs.length = ds.length := by have := congrArg List.length e; simpa using this
  refine ⟨fun x hx => ?_, fun hl => ⟨hs, by rw [List.length_map] at hl; omega⟩⟩
  rw [List.getElem?_map] at hx
  obtain ⟨p, hp, rfl⟩ := Option.map_eq_some_iff.mp hx
  have lt : i < kvs.length := by rw [len]; exact (List.getElem?_eq_some_iff.mp hp).1
  refine ⟨⟨hs, lt⟩, fun y H'' hy => ⟨.inl hy.1, ?_⟩⟩
  obtain ⟨e1, kk, v, q, e2, rfl, e3⟩ := hy
  subst e1
  have ek : kk = p.1 := by
    have z1 : (kvs.map (·.1))[i]? = some kk := by rw [List.getElem?_map, e2]; rfl
    have z2 : (ds.map (·.1))[i]? = some p.1 := by rw [List.getElem?_map, hp]; rfl
    rw [e, z2] at z1
    exact (Option.some.inj z1).symm
  subst ek
  refine Rp.tup' e3 (fun v => ?_) (keysDat_rp _)
  obtain ⟨o, e4, nt⟩ := hB q v
  rw [e3] at e4
  cases Option.some.inj e4
  exact nt _ rfl
theorem it_keysK {kvs : List (Key × V)} {ds : List (Key × D)} (h : H d = some (.frz od (.dK kvs))) (nv : ¬ Vol ρ st d) (e : kvs.map (·.1) = ds.map (·.1)) : ItOk g ρ st H (Itk d od kvs) (ds.map fun p => keyDat p.1) := fun B H' k hB i => by
  have hs := (k d _ h nv).1
  have len : kvs.length = ds.length := by have := congrArg List.length e; simpa using this
  refine ⟨fun x hx => ?_, fun hl => ⟨hs, by rw [List.length_map] at hl; omega⟩⟩
  rw [List.getElem?_map] at hx
  obtain ⟨p, hp, rfl⟩ := Option.map_eq_some_iff.mp hx
  have lt : i < kvs.length := by rw [len]; exact (List.getElem?_eq_some_iff.mp hp).1
  refine ⟨⟨hs, lt⟩, fun y H'' hy => ⟨.inl hy.1, ?_⟩⟩
  obtain ⟨e1, kk, v, e2, rfl⟩ := hy
  have ek : kk = p.1 := by
    have z1 : (kvs.map (·.1))[i]? = some kk := by rw [List.getElem?_map, e2]; rfl
    have z2 : (ds.map (·.1))[i]? = some p.1 := by rw [List.getElem?_map, hp]; rfl
    rw [e, z2] at z1
    exact (Option.some.inj z1).symm
  subst ek
  exact keyDat_rp _
end
def mForD (i : Nat) (tg : Tg) (body : MS) : MS := fun st => match st.sl[i]? with
  | some (.d x) => match keysOf x with
    | some ds => noEr (loopS tg body ds st)
    | none => .no
  | _ => .no
theorem PS.or {X : Cx} {s : Stmt} {t u : TS} (a : PS X s t) (b : PS X s u) : PS X s (fun E σ H => t E σ H ∨ u E σ H) := ⟨fun pq s σ H E I h => h.elim (fun q => a.run pq s σ H E I q) fun q => b.run pq s σ H E I q⟩
section
variable {X : Cx} {g : G} {ER : EK} {pos p : Pos} {x : Str}
theorem OutS.unEr {ρ : Rh} {st : S} {H : Hp} {o : SO} {E : Ends} (h : OutS g ER ρ st H (noEr o) E) : OutS g ER ρ st H o E := by
  cases o with
  | er c vs st' => exact h.elim
  | _ => exact h
theorem ps_mForD {tg : Expr} {body : List Stmt} {t : TG} {tgd : Tg} {is : List Nat} {mb : MS} {i : Nat} (hp : PassesOwn (model X.prog X.w) X.A X.env X.xe) (hc : X.calm = true) (hi : PE X (.Name x p) (tVar i)) (hg : PG X tg t) (ok : GOk g tgd t is) (hb : PSs X body (tMS g ER mb))
    (hs : ∀ y, foldedSetIterable (.Name x p) X.env y = pure y := by intro _; rfl) : PS X (.For tg (.Name x p) body [] pos) (tMS g ER (mForD i tgd mb)) := by
  refine PSi (PS.or (ps_lock (ps_for hp hc (pi_keys hi) hg hb hs)) (ps_for hp hc (pi_keys hi) hg hb hs)) fun E σ H h => ?_
  obtain ⟨ρ, st, s, h⟩ := h
  unfold mForD at h
  split at h
  case h_2 => exact h.elim
  rename_i y ey
  have lt : i < σ.length := by rw [s.len]; exact (List.getElem?_eq_some_iff.mp ey).1
  obtain ⟨v, ev, rv⟩ := s.slot i _ _ ey (List.getElem?_eq_getElem lt)
  have ev : σ[i]? = some (some v) := by rw [List.getElem?_eq_getElem lt, ev]
  split at h
  case h_2 => exact h.elim
  rename_i ds eds
  cases y with
  | dT kvs =>
    cases Option.some.inj eds
    obtain ⟨a, xs, rfl, rd, nv, ek, _⟩ := rv.inv_dT
    rcases rd with rd | ⟨o, rd⟩
    · refine .inl ⟨a, .dT xs, rd, trivial, fun od => ?_⟩
      have s1 := s.lock (od := od) rd trivial nv
      exact ⟨.ref a, ev, a, od, rfl, .inr ⟨xs, upd_same, for_core ok s1 (OutS.locked rd trivial nv h) (it_keysT upd_same nv ek)⟩⟩
    · exact .inr ⟨.ref a, ev, a, o, rfl, .inr ⟨xs, rd, for_core ok s (OutS.unEr h) (it_keysT rd nv ek)⟩⟩
  | dK kvs =>
    cases Option.some.inj eds
    obtain ⟨a, xs, rfl, rd, nv, ek, _⟩ := rv.inv_dK
    rcases rd with rd | ⟨o, rd⟩
    · refine .inl ⟨a, .dK xs, rd, trivial, fun od => ?_⟩
      have s1 := s.lock (od := od) rd trivial nv
      exact ⟨.ref a, ev, a, od, rfl, .inl ⟨xs, upd_same, for_core ok s1 (OutS.locked rd trivial nv h) (it_keysK upd_same nv ek)⟩⟩
    · exact .inr ⟨.ref a, ev, a, o, rfl, .inl ⟨xs, rd, for_core ok s (OutS.unEr h) (it_keysK rd nv ek)⟩⟩
  | _ => cases eds
/-- whatever the name holds: a dict, or what is walked item by item -/
def mForA (i : Nat) (tg : Tg) (body : MS) : MS := fun st => match st.sl[i]? with
  | some (.d (.dT _)) => mForD i tg body st
  | some (.d (.dK _)) => mForD i tg body st
  | _ => mFor (miSeq (mVarF i)) tg body st
theorem ps_mForA {tg : Expr} {body : List Stmt} {t : TG} {tgd : Tg} {is : List Nat} {mb : MS} {i : Nat} (hp : PassesOwn (model X.prog X.w) X.A X.env X.xe) (hc : X.calm = true) (hw : PI X tg (.Name x p) (tMI g ER (miSeq (mVarF i)))) (hi : PE X (.Name x p) (tVar i)) (hg : PG X tg t) (ok : GOk g tgd t is) (hb : PSs X body (tMS g ER mb))
    (hs : ∀ y, foldedSetIterable (.Name x p) X.env y = pure y := by intro _; rfl) : PS X (.For tg (.Name x p) body [] pos) (tMS g ER (mForA i tgd mb)) := by
  refine PSi (PS.or (ps_mForD hp hc hi hg ok hb hs) (ps_mFor hp hc hw hg ok hb hs)) fun E σ H h => ?_
  obtain ⟨ρ, st, s, h⟩ := h
  unfold mForA at h
  split at h
  · exact .inl ⟨ρ, st, s, h⟩
  · exact .inl ⟨ρ, st, s, h⟩
  · exact .inr ⟨ρ, st, s, h⟩
end
end RE
set_option maxHeartbeats 4000000
namespace RE
open PySem PySem.Spec PyProof.Rows L2
section
variable {K : PySem.W.Frag} {x y : Str} {st : Stmt} {f f' C C' : Addr} {d d' : FuncData} {ps : List Str} {mg : Str → Option Value} {dvs : List V}
theorem at_fun (q : f = f') (r : d = d') (h : Fun K x y st f' d') : Fun K x y st f d := by subst q r; exact h
theorem at_funD (q : f = f') (r : d = d') (h : FunD K x y (defArgs st) (defBody st) (defScope st) dvs [] f' d') : FunD K x y (defArgs st) (defBody st) (defScope st) dvs [] f d := by subst q r; exact h
theorem at_binds (r : d = d') (h : Binds K d' ps []) : Binds K d ps [] := by subst r; exact h
theorem at_bindsD (r : d = d') (h : ∃ ds, Vals dvs ds ∧ Binds K d' ps ds) : ∃ ds, Vals dvs ds ∧ Binds K d ps ds := by subst r; exact h
theorem at_mg (q : f = f') (h : mg x = some (.ref f')) : mg x = some (.ref f) := by subst q; exact h
theorem at_kw {ks : List Str} {pm : List Nat} (r : d = d') (h : KwOk K d' ps ks pm) : KwOk K d ps ks pm := by subst r; exact h
theorem at_errC {B : String} {bm : List Value} (q : C = C') (h : ErrC K C' B bm) : ErrC K C B bm := by subst q; exact h
theorem at_init (q : C = C') (r : f = f') (h : PySem.W.findIn K (.ref C') "__init__" = some (some (.ref f'))) : PySem.W.findIn K (.ref C) "__init__" = some (some (.ref f)) := by subst q r; exact h
theorem at_type (r : f = f') (h : PySem.W.typeIn K (.ref f') = some (.type "function")) : PySem.W.typeIn K (.ref f) = some (.type "function") := by subst r; exact h
theorem at_su (q : C = C') (h : SuC K C') : SuC K C := by subst q; exact h
theorem at_exm {D D' : Addr} {b : Bool} (q : C = C') (r : D = D') (h : PySem.W.exmOne K (.ref C') (.ref D') = some b) : PySem.W.exmOne K (.ref C) (.ref D) = some b := by subst q r; exact h
end
end RE
set_option maxHeartbeats 4000000
namespace RE
open PySem PySem.Spec PyProof.Rows L2
def shrD (a b : D) : Option D := match a, b with
  | .int i, .int j => if 0 ≤ j then some (.int (i / 2 ^ j.toNat)) else none
  | _, _ => none
theorem rop_shr {g : G} : ROp g (rI (fun _ j => 0 ≤ j) fun i j => .int (i / 2 ^ j.toNat)) shrD := by
  intro ρ σ st H x y dx dy d Q e s rx ry k
  unfold shrD at e
  split at e
  · rename_i i j
    split at e
    · rename_i hz
      exact ⟨i, j, rx.inv_int, ry.inv_int, hz, k ρ H _ Ext.refl s (by rw [← Option.some.inj e]; exact .int _)⟩
    · cases e
  · cases e
def andD (a b : D) : Option D := match a, b with
  | .int i, .int j => some (.int (Builtin.bitAnd i j))
  | _, _ => none
theorem rop_and {g : G} : ROp g (rI0 fun i j => .int (Builtin.bitAnd i j)) andD := by
  intro ρ σ st H x y dx dy d Q e s rx ry k
  unfold andD at e
  split at e
  · rename_i i j
    exact ⟨i, j, rx.inv_int, ry.inv_int, k ρ H _ Ext.refl s (by rw [← Option.some.inj e]; exact .int _)⟩
  · cases e
def sumD : List D → Option D
  | [.lst ds] => match mapO toI ds with
    | some is => some (.int is.sum)
    | none => none
  | _ => none
theorem rop_sum {g : G} : ROpN g (rSum g.K) sumD := by
  intro ρ σ st H xs ds d Q e s rs k
  unfold sumD at e
  split at e
  · rename_i es
    obtain ⟨v, rfl, r⟩ := rs.one
    obtain ⟨a, ys, rfl, ha, _, ra⟩ := r.inv_lst
    split at e
    · rename_i is ei
      cases Option.some.inj e
      have hy := toI_all ei ra
      subst hy
      exact ⟨a, is, rfl, SqL.of ha, k ρ H _ Ext.refl s (.int _)⟩
    · cases e
  · cases e
end RE
set_option maxHeartbeats 4000000
namespace RE
open PySem PySem.Spec PyProof.Rows L2
def isDcD : D → Bool
  | .dK _ => true
  | .dT _ => true
  | _ => false
theorem getD_isD {g : G} {A : Addr → Prop} {H : Hp} {v : V} {c : D} (rc : Rp g A H v c) (e : isDcD c = true) : ∃ a, v = .ref a ∧ IsD H a := by
  cases rc with
  | dK ha _ _ _ _ => exact ⟨_, rfl, .inl ⟨_, ha⟩⟩
  | dT ha _ _ _ _ => exact ⟨_, rfl, .inr ⟨_, ha⟩⟩
  | _ => cases e
def mGet2 (mo me mf : M) : M := fun st => bindO (mo st) fun c st1 => if isDcD c = true then bindO (me st1) fun y st2 => bindO (mf st2) fun z st3 => match getD c y with
  | some (some r) => .ok r st3
  | some none => .ok z st3
  | none => .no
  else .no
section
variable {X : Cx} {g : G} {ER : EK} {o e f : Expr} {mo me mf : M} {apos cpos : Pos}
theorem pe_mGet2 (hu : X.A.units + 1 < cLine) (ho : PE X o (tM g ER mo)) (he : PE X e (tM g ER me)) (hf : PE X f (tM g ER mf)) (m : M2 X o "get" apos e f cpos := by exact ⟨rfl, rfl, rfl, rfl⟩) : PE X (.Call (.Attribute o "get" apos) [e, f] [] cpos) (tM g ER (mGet2 mo me mf)) := by
  refine PEi (pe_dget2 hu ho he hf m) fun σ H Q h => ?_
  obtain ⟨ρ, st, s, h⟩ := h
  refine ⟨ρ, st, s, (OutC.bind h).mono fun c st1 ρ1 H1 _ h1 s1 v rv => ?_⟩
  by_cases ec : isDcD c = true
  case neg => rw [if_neg ec] at h1; exact h1.elim
  rw [if_pos ec] at h1
  obtain ⟨a, rfl, hd⟩ := getD_isD rv ec
  refine ⟨a, rfl, hd, ρ1, st1, s1, (OutC.bind h1).mono fun y st2 ρ2 H2 e2 h2 s2 u ru => ?_⟩
  refine ⟨ρ2, st2, s2, (OutC.bind h2).mono fun z st3 ρ3 H3 e3 h3 s3 w rw' => ?_⟩
  cases eg : getD c y with
  | none => simp only [eg] at h3; exact h3.elim
  | some r =>
    obtain ⟨a', ov, ea, gd, hr⟩ := getD_ok ((rv.go e2).go e3) (ru.go e3) eg
    cases ea
    refine ⟨ov, gd, ?_⟩
    rcases hr with ⟨rfl, rfl⟩ | ⟨x, w', rfl, rfl, rx⟩
    · simp only [eg] at h3
      exact h3 ρ3 H3 Ext.refl s3 _ rw'
    · simp only [eg] at h3
      exact h3 ρ3 H3 Ext.refl s3 _ rx
end
end RE
set_option maxHeartbeats 4000000
namespace RE
open PySem PySem.Spec PyProof.Rows L2
def placeI : List Int → Int → Nat → Option Nat
  | [], _, _ => none
  | n :: ns, k, j => if n = k then some j else placeI ns k (j + 1)
theorem placeI_ok : ∀ (ns : List Int) (k : Int) (i j : Nat), placeI ns k i = some j → ∃ m, j = i + m ∧ ns[m]? = some k ∧ ∀ l, l < m → ∀ z, ns[l]? = some z → z ≠ k
  | [], k, i, j, h => by cases h
  | n :: ns, k, i, j, h => by
    unfold placeI at h
    by_cases e : n = k
    · rw [if_pos e] at h
      cases Option.some.inj h
      exact ⟨0, rfl, by rw [e]; rfl, fun l hl => by omega⟩
    · rw [if_neg e] at h
      obtain ⟨m, e1, e2, e3⟩ := placeI_ok ns k (i + 1) j h
      refine ⟨m + 1, by omega, e2, fun l hl z hz => ?_⟩
      cases l with
      | zero => cases Option.some.inj (show some n = some z from hz); exact e
      | succ l => exact e3 l (by omega) z hz
def mIdxL (mo me : M) : M := fun st => bindO (mo st) fun c st1 => match c with
  | .lst ds => match mapO toI ds with
    | some ns => bindO (me st1) fun y st2 => match y with
      | .int k => match placeI ns k 0 with
        | some j => .ok (.int (j : Nat)) st2
        | none => .no
      | _ => .no
    | none => .no
  | _ => .no
section
variable {X : Cx} {g : G} {ER : EK} {o e : Expr} {mo me : M} {apos cpos : Pos}
theorem flat_ints : ∀ ns : List Int, (ns.map V.int).all flatV = true
  | [] => rfl
  | n :: ns => by rw [List.map_cons, List.all_cons, flat_ints ns]; rfl
theorem pe_mIdxL (hk : X.K = g.K) (ho : PE X o (tM g ER mo)) (he : PE X e (tM g ER me))
    (hbase : attributeBase o "index" X.env (eval o X.env) = eval o X.env := by rfl) (hfew : ((backTo cpos (starEach [e] X.env)).all (fun x => !x.1) && (backToKw cpos (keywordEach [] X.env)).all (fun x => x.1.isSome)
      && decide ([e].length + ([] : List Keyword).length + (if ([] : List Keyword).isEmpty then 0 else 1) < 30)) = true := by rfl)
    (hline : (apos.endLine == cpos.line) = true := by rfl) (hs : starEach [e] X.env = [(false, eval e X.env)] := by rfl) (hplain : (backTo cpos (starEach ([] : List Expr) X.env)).any (·.1) = false := by rfl) :
    PE X (.Call (.Attribute o "index" apos) [e] [] cpos) (tM g ER (mIdxL mo me)) := by
  refine PEi (pe_bm PySem.F.plainAttrs_list PySem.F.slot_list_index PySem.F.type_list_index mt_index ho (pa_cons he pa_nil hs) hbase hfew hline hs hplain) fun σ H Q h => ?_
  obtain ⟨ρ, st, s, h⟩ := h
  refine ⟨ρ, st, s, (OutC.bind h).mono fun c st1 ρ1 H1 _ h1 s1 v rv => ?_⟩
  cases c with
  | lst ds =>
    cases en : mapO toI ds with
    | none => simp only [en] at h1; exact h1.elim
    | some ns =>
      simp only [en] at h1
      obtain ⟨a, xs, rfl, ha, na, ra⟩ := rv.inv_lst
      have hx := toI_all en ra
      subst hx
      refine ⟨.inl ⟨rfl, _, SqL.of ha⟩, ρ1, st1, s1, (OutC.bind h1).mono fun y st2 ρ2 H2 e2 h2 s2 u ru => ?_⟩
      cases y with
      | int k =>
        cases ep : placeI ns k 0 with
        | none => simp only [ep] at h2; exact h2.elim
        | some j =>
          simp only [ep] at h2
          obtain ⟨m, e3, e4, e5⟩ := placeI_ok ns k 0 j ep
          have ej : j = m := by omega
          subst ej
          have hu := ru.inv_int
          subst hu
          obtain ⟨ha2, _⟩ := e2.keep a _ ha na
          refine ⟨a, ns.map V.int, .int k, j, .int k, rfl, rfl, by rw [hk]; exact SqL.of ha2, rfl, flat_ints ns, by rw [List.getElem?_map, e4]; rfl, ?_, fun l z hl hz => ?_, h2 ρ2 H2 Ext.refl s2 _ (.int _)⟩
          · exact decide_eq_true rfl
          · rw [List.getElem?_map] at hz
            obtain ⟨w, hw, rfl⟩ := Option.map_eq_some_iff.mp hz
            exact decide_eq_false (e5 l hl w hw)
      | _ => exact h2.elim
  | _ => exact h1.elim
end
end RE
set_option maxHeartbeats 4000000
namespace RE
open PySem PySem.Spec PyProof.Rows L2
def big62 (i : Int) : Bool := decide (-4611686018427387904 ≤ i) && decide (i < 4611686018427387904)
theorem big62_ok {i : Int} (h : big62 i = true) : -(2 ^ 62) ≤ i ∧ i < 2 ^ 62 := by
  obtain ⟨h1, h2⟩ := Bool.and_eq_true_iff.mp h
  have h1 := of_decide_eq_true h1
  have h2 := of_decide_eq_true h2
  exact ⟨by omega, by omega⟩
def okC (i j c : Int) : Bool := decide (c ≠ 0) && (decide (c.natAbs < 1073741824) && (Builtin.Range.small i j c && decide (Builtin.Range.rangeSize i j c = ((Builtin.Range.rangeSize i j c).toNat : Nat))))
def range3F : List D → Option (List D)
  | [.int i, .int j, .int c] => if okC i j c = true then some ((List.range (Builtin.Range.rangeSize i j c).toNat).map fun k => D.int (i + (k : Nat) * c)) else none
  | _ => none
section
variable {X : Cx} {g : G} {ER : EK} {tg : Expr} {p pos : Pos} {ma : MA} {ρ : Rh} {st : S} {H : Hp}
theorem it_rangeC {lo c : Int} {n : Nat} : ItOk g ρ st H (Itc lo c n) ((List.range n).map fun i => D.int (lo + (i : Nat) * c)) := fun A H' k hA i => by
  refine ⟨fun d hd => ?_, fun hl => by rw [List.length_map, List.length_range] at hl; exact hl⟩
  rw [List.getElem?_map] at hd
  obtain ⟨j, hj, rfl⟩ := Option.map_eq_some_iff.mp hd
  obtain ⟨hi, e⟩ := List.getElem?_eq_some_iff.mp hj
  have hi' : i < n := by simpa using hi
  have ej : i = j := by simpa using e
  subst ej
  refine ⟨hi', fun x H'' hx => ?_⟩
  obtain ⟨rfl, rfl⟩ := hx
  exact ⟨.inl rfl, .int _⟩
theorem pi_mRange3 {a b c : Expr} (hg : Gl X "range") (hm : X.mg "range" = none) (ha : PA X [a, b, c] (tMA g ER ma))
    (hs : starEach [a, b, c] X.env = (false, eval a X.env) :: starEach [b, c] X.env := by rfl) (hpl : (backTo pos (starEach [b, c] X.env)).any (·.1) = false := by rfl) :
    PI X tg (.Call (.Name "range" p) [a, b, c] [] pos) (tMI g ER (miFun range3F ma)) := by
  refine PIi (pi_range3 hg hm ha hs hpl) fun σ H R h => ?_
  obtain ⟨ρ, st, s, h⟩ := h
  refine ⟨ρ, st, s, (OutC.bind h).mono fun ds st1 ρ1 H1 _ h1 s1 vs rs => ?_⟩
  cases e1 : range3F ds with
  | none => rw [e1] at h1; exact h1.elim
  | some es =>
    rw [e1] at h1
    unfold range3F at e1
    split at e1
    · rename_i i j c
      split at e1
      · rename_i hz
        cases Option.some.inj e1
        obtain ⟨v, vs', rfl, r, rs⟩ := rs.cases_cons
        obtain ⟨u, vs', rfl, r', rs⟩ := rs.cases_cons
        obtain ⟨w, rfl, r''⟩ := rs.one
        obtain ⟨z1, z2⟩ := Bool.and_eq_true_iff.mp hz
        obtain ⟨z2, z3⟩ := Bool.and_eq_true_iff.mp z2
        obtain ⟨z3, z4⟩ := Bool.and_eq_true_iff.mp z3
        exact ⟨i, j, c, _, by rw [r.inv_int, r'.inv_int, r''.inv_int], ⟨of_decide_eq_true z1, of_decide_eq_true z2, z3, of_decide_eq_true z4⟩, h1 ρ1 H1 Ext.refl s1 _ it_rangeC⟩
      · cases e1
    · cases e1
end
end RE
set_option maxHeartbeats 4000000
namespace RE
open PySem PySem.Spec PyProof.Rows L2
/-- the pairs, each a new tuple of the key's own tuple and the value -/
def ItiT (c : Addr) (ob : Obj) (ps : List (List Key × V)) : It where
  go i H := H c = some (.frz ob (.dT ps)) ∧ i < ps.length
  yld i H x H' := ∃ (t q : Addr) (ks : List Key) (y : V), ps[i]? = some (ks, y) ∧ x = .ref t ∧ H t = none ∧ H q = some (.tup (ks.map kV)) ∧ H' = upd H t (.tup [.ref q, y])
  stop i H := H c = some (.frz ob (.dT ps)) ∧ ps.length ≤ i
section
variable {X : Cx} {pq : List (Addr × Obj)} {σ : L2.St} {H : Hp} {s : Shared} {c : Addr} {ob : Obj} {ps : List (List Key × V)}
/-- a locked dict's entries: its object, each key's own tuple, each value -/
structure FrzT (H : Hp) (s : Shared) (c : Addr) (ob : Obj) (ps : List (List Key × V)) (es : Array DictEntry) (n : Nat) : Prop where
  sys : (c == sysModules) = false
  raw : DT.Raw s.heap c es n
  exact' : ob.ExactDict
  at' : s.heap.get? c = some ob
  data : ob.data = .dict es n
  size : es.size = ps.length
  item : ∀ (i : Nat) (ks : List Key) (y : V), ps[i]? = some (ks, y) → ∃ (en : DictEntry) (q : Addr), es[i]? = some en ∧ en.key = .ref q ∧ H q = some (.tup (ks.map kV)) ∧ RelV y en.val
theorem frzT_of (I : Inv X pq σ H s) (hc : H c = some (.frz ob (.dT ps))) : ∃ es n, FrzT H s c ob ps es n := by
  have q := I.hok c _ hc
  obtain ⟨g1, _, g2, rows, pr, ob', es, n, g3, g4, g5, g6, _⟩ := q
  have eo : ob = ob' := Option.some.inj (g1.symm.trans g3)
  subst eo
  refine ⟨es, n, ⟨g2, ⟨ob, g1, g4, g5⟩, g4, g1, g5, (size_of_entries g6).trans (Paired.length pr).symm, fun i ks y hy => ?_⟩⟩
  obtain ⟨row, hr, _, r2, r3⟩ := paired_get pr hy
  have ee := entry_at g6 i
  rw [hr] at ee
  exact ⟨_, row.2.1, ee, rfl, r2, r3⟩
end
section
variable {P : Program} {w : World} {K : PySem.W.Frag} {c : Addr} {ob : Obj} {es : Array DictEntry} {n : Nat} {ps : List (List Key × V)}
theorem FrzT.same {H : Hp} {s : Shared} {es' : Array DictEntry} {n' : Nat} (x : FrzT H s c ob ps es' n') (h : ob.data = .dict es n) : FrzT H s c ob ps es n := by
  obtain ⟨z1, z2⟩ := dict_ep h x.data
  rw [z1, z2] at x
  exact x
theorem turn_itemsT {ts : List Expr} {kk : Nat} {tp : Pos} (a : Addr) (hob : ob.data = .dict es n) :
    Turn P w K (.Tuple ts kk tp) (ItiT c ob ps) [a] a (fun i h => ∃ u v, IsItemIter h a c i ps.length n u v) where
  mem := List.mem_singleton.mpr rfl
  obj := fun _ _ ⟨_, _, z⟩ b hb => by
    rw [List.mem_singleton.mp hb]
    exact ⟨_, z, fun _ q => nomatch q⟩
  keep := fun _ _ _ ⟨u, v, z⟩ k => ⟨u, v, k a (List.mem_singleton.mpr rfl) _ z⟩
  item := by
    intro X e1 e2 e3 _ i pq s σ H E I free ⟨u, v, z⟩ ⟨hc, hi⟩
    cases e1; cases e2; cases e3
    obtain ⟨es', n', f⟩ := frzT_of I hc
    have f := f.same hob
    have hp : ps[i]? = some ps[i] := List.getElem?_eq_getElem hi
    obtain ⟨en, q, g1, g2, g3, g4⟩ := f.item i ps[i].1 ps[i].2 hp
    rw [← f.size] at z
    have ha : a < s.heap.objs.size := Heap.lt_size z
    have hi' : i < es.size := by rw [f.size]; exact hi
    have g1 : es[i] = en := (Array.getElem?_eq_some_iff.mp g1).2
    refine DT.nextI z f.raw hi' fun h1 out tup _ old => ?_
    rw [g1, g2] at out tup
    refine ⟨_, rfl, wpAny_letOwnedTupleGo_items (s := ⟨h1, s.gens, s.drawn, s.toks, s.os⟩) out fun h2 z2 same => ?_⟩
    have tup2 := (same.2 _ (Nat.ne_of_gt ha)).trans tup
    have ok : ObjOk X.prog X.w (upd H s.heap.objs.size (.tup [.ref q, ps[i].2])) h2 s.heap.objs.size (.tup [.ref q, ps[i].2]) :=
      ⟨(by decide : 2 ≤ sizeLine), _, .cons rfl (.cons g4 .nil), ⟨_, tup2, rfl, _, rfl⟩⟩
    have I2 := I.turnedNew (t' := s.toks) (h' := h2) (ch := [a]) (fun b o' nb eo => by
      have nb := fun q => nb (List.mem_singleton.mpr q)
      exact (same.2 b nb).trans (old b o' nb eo)) free (Nat.le_refl _) ok
    refine ⟨.ref s.heap.objs.size, _, I2, rfl, ⟨_, q, ps[i].1, ps[i].2, hp, rfl, I.hok.fresh (Nat.le_refl _), g3, rfl⟩, ⟨.ref q, en.val, ?_⟩, fun b hb => ?_⟩
    · rw [← f.size]; exact z2
    · rw [List.mem_singleton.mp hb, upd_ne (Nat.ne_of_lt ha)]
      exact (free a (List.mem_singleton.mpr rfl)).1
  done := by
    intro X e1 e2 e3 calm i pq s σ H E I free ⟨u, v, z⟩ ⟨hc, hi⟩
    cases e1; cases e2; cases e3
    obtain ⟨es', n', f⟩ := frzT_of I hc
    have f := f.same hob
    rw [← f.size] at z
    obtain ⟨k0, k1, _, k3, k4, k5⟩ := free a (List.mem_singleton.mpr rfl)
    exact DT.endI (I.ok.hd calm) z f.raw (by rw [f.size]; exact hi) fun h1 but => ⟨rfl, I.turned (t' := s.toks) (fun b o' nb eo => but b o' nb eo) k0 k1 k3 k4 k5⟩
  self := fun _ _ _ _ _ ⟨_, _, z⟩ k => PySem.W.kcp_self z k
end
def iItemsT (td : TE) : TI := fun σ H R => td σ H fun x H1 => ∃ c ob ps, x = .ref c ∧ H1 c = some (.frz ob (.dT ps)) ∧ R (ItiT c ob ps) H1
section
variable {X : Cx} {e : Expr} {td : TE} {p1 p2 : Pos}
theorem pi_itemsT {ts : List Expr} {kk : Nat} {tp : Pos} (he : PE X e td) (hb : attributeBase e "items" X.env (eval e X.env) = eval e X.env := by rfl) (hl : (p1.endLine == p2.line) = true := by rfl) :
    PI X (.Tuple ts kk tp) (.Call (.Attribute e "items" p1) [] [] p2) (iItemsT td) := by
  constructor
  intro pq s σ H R I h
  refine wpAny_Call_method (id := "dict.items") (T := "dict") hb rfl hl F.plainAttrs_dict F.slot_dict_items F.type_dict_items (thn (he.run pq s σ H _ I h) fun u s1 q => ?_)
  obtain ⟨x, H1, I1, rx, c, ob, ps, rfl, hc, k⟩ := q
  cases rx
  obtain ⟨es, n, f⟩ := frzT_of I1 hc
  refine ⟨f.raw.typeIs, fun a ea => ?_, ?_⟩
  · cases ea; exact ⟨ob, f.at', f.exact'.2.1⟩
  show wpAny _ _ (callWith p2 (Value.builtin "dict.items") [Value.ref c] [] []) _ X.xe s1
  refine method_meetsIn F.slot_dict_items F.entry_dict_items rfl (PySem.evalArgs_none ⟨rfl, f.raw.typeIs, F.args_dict_items_1 _, _, DT.meetsItems (es := es) (ep := n) f.sys, f.raw, ?_⟩)
  have I2 : Inv X pq σ H1 { s1 with heap := s1.heap.push { cls := .type "dict_items", data := .fields #[.ref c] } } := I1.kept (t' := s1.toks) fun _ _ z => Heap.get?_push_of_some _ z
  refine DT.iterI (d := c) ⟨_, Heap.get?_push_size _ rfl, rfl, rfl⟩ (f.raw.push _) (pi_one (tk := s1.toks) I2 _ (turn_itemsT _ f.data) ⟨Value.none, Value.none, ?_⟩ k)
  rw [← f.size]
  exact Heap.get?_push_size _ rfl
end
end RE
set_option maxHeartbeats 4000000
namespace RE
open PySem PySem.Spec PyProof.Rows L2
def itemsOf : D → Option (List D)
  | .dT kvs => some (kvs.map fun p => .tup [.tup (p.1.map keyDat), p.2])
  | .dK kvs => some (kvs.map fun p => .tup [keyDat p.1, p.2])
  | _ => none
section
variable {g : G} {ER : EK} {ρ : Rh} {st : S} {H : Hp} {d : Addr} {od : Obj}
theorem it_itemsT {kvs : List (List Key × V)} {ds : List (List Key × D)} (h : H d = some (.frz od (.dT kvs))) (nv : ¬ Vol ρ st d) (e : kvs.map (·.1) = ds.map (·.1)) (r : RpA g (Vol ρ st) H (kvs.map (·.2)) (ds.map (·.2))) :
    ItOk g ρ st H (ItiT d od kvs) (ds.map fun p => .tup [.tup (p.1.map keyDat), p.2]) := fun B H' k hB i => by
  have hs := (k d _ h nv).1
  have len : kvs.length = ds.length := by have := congrArg List.length e; simpa using this
  refine ⟨fun x hx => ?_, fun hl => ⟨hs, by rw [List.length_map] at hl; omega⟩⟩
  rw [List.getElem?_map] at hx
  obtain ⟨p, hp, rfl⟩ := Option.map_eq_some_iff.mp hx
  have lt : i < kvs.length := by rw [len]; exact (List.getElem?_eq_some_iff.mp hp).1
  refine ⟨⟨hs, lt⟩, fun y H'' hy => ?_⟩
  obtain ⟨t, q, ks, v, e2, rfl, ht, e3, rfl⟩ := hy
  have ek : ks = p.1 := by
    have z1 : (kvs.map (·.1))[i]? = some ks := by rw [List.getElem?_map, e2]; rfl
    have z2 : (ds.map (·.1))[i]? = some p.1 := by rw [List.getElem?_map, hp]; rfl
    rw [e, z2] at z1
    exact (Option.some.inj z1).symm
  subst ek
  have rv : Rp g (Vol ρ st) H v p.2 := r.2 i v p.2 (by rw [List.getElem?_map, e2]; rfl) (by rw [List.getElem?_map, hp]; rfl)
  refine ⟨.inr ⟨t, _, ht, rfl⟩, ?_⟩
  have rk : Rp g B H' (.ref q) (.tup (p.1.map keyDat)) := by
    refine Rp.tup' e3 (fun v => ?_) (keysDat_rp _)
    obtain ⟨o, e4, nt⟩ := hB q v
    rw [e3] at e4
    cases Option.some.inj e4
    exact nt _ rfl
  exact Rp.tup' upd_same (nvolA hB ht) (RpA.cons (rk.ext (keepA ht)) (RpA.cons ((rv.ext k).ext (keepA ht)) RpA.nil))
theorem it_itemsK {kvs : List (Key × V)} {ds : List (Key × D)} (h : H d = some (.frz od (.dK kvs))) (nv : ¬ Vol ρ st d) (e : kvs.map (·.1) = ds.map (·.1)) (r : RpA g (Vol ρ st) H (kvs.map (·.2)) (ds.map (·.2))) :
    ItOk g ρ st H (Iti d od kvs) (ds.map fun p => .tup [keyDat p.1, p.2]) := fun B H' k hB i => by
  have hs := (k d _ h nv).1
  have len : kvs.length = ds.length := by have := congrArg List.length e; simpa using this
  refine ⟨fun x hx => ?_, fun hl => ⟨hs, by rw [List.length_map] at hl; omega⟩⟩
  rw [List.getElem?_map] at hx
  obtain ⟨p, hp, rfl⟩ := Option.map_eq_some_iff.mp hx
  have lt : i < kvs.length := by rw [len]; exact (List.getElem?_eq_some_iff.mp hp).1
  refine ⟨⟨hs, lt⟩, fun y H'' hy => ?_⟩
  obtain ⟨t, kk, v, e2, rfl, ht, rfl⟩ := hy
  have ek : kk = p.1 := by
    have z1 : (kvs.map (·.1))[i]? = some kk := by rw [List.getElem?_map, e2]; rfl
    have z2 : (ds.map (·.1))[i]? = some p.1 := by rw [List.getElem?_map, hp]; rfl
    rw [e, z2] at z1
    exact (Option.some.inj z1).symm
  subst ek
  have rv : Rp g (Vol ρ st) H v p.2 := r.2 i v p.2 (by rw [List.getElem?_map, e2]; rfl) (by rw [List.getElem?_map, hp]; rfl)
  exact ⟨.inr ⟨t, _, ht, rfl⟩, Rp.tup' upd_same (nvolA hB ht) (RpA.cons (keyDat_rp _) (RpA.cons ((rv.ext k).ext (keepA ht)) RpA.nil))⟩
end
end RE
set_option maxHeartbeats 4000000
namespace RE
open PySem PySem.Spec PyProof.Rows L2
end RE
set_option maxHeartbeats 4000000
namespace RE
open PySem PySem.Spec PyProof.Rows L2
def getC (c : Ce) (d : D) : Option (Option D) := match c with
  | .dK kvs => getD (.dK kvs) d
  | .dT kvs => getD (.dT kvs) d
  | _ => none
def Ce.isDc : Ce → Bool
  | .dK _ => true
  | .dT _ => true
  | _ => false
def S.isDc (st : S) (k : Nat) : Bool := match st.ce[k]? with
  | some c => c.isDc
  | none => false
section
variable {g : G} {A : Addr → Prop} {H : Hp} {a : Addr} {c : Ce} {v : V} {d : D} {o : Option D}
theorem getC_ok {ad : List Addr} (q : CeOk g A ad H a c) (r : Rp g A H v d) (e : getC c d = some o) : ∃ ov, DGet H a v ov ∧ ((o = none ∧ ov = none) ∨ ∃ x y, o = some x ∧ ov = some y ∧ Rp g A H y x) := by
  cases c with
  | dK kvs =>
    obtain ⟨xs, ha, ek, rv⟩ := q
    have e : getD (.dK kvs) d = some o := e
    unfold getD at e
    cases e1 : keyD d with
    | none => simp only [e1] at e; cases e
    | some k =>
      simp only [e1] at e
      cases Option.some.inj e
      cases keyD_ok r e1
      refine ⟨valV xs k, .inl ⟨xs, k, .inl ha, rfl, rfl⟩, ?_⟩
      rcases valD_ok k ek rv with ⟨h1, h2⟩ | ⟨x, y, h1, h2, h3⟩
      · exact .inl ⟨h1, h2⟩
      · exact .inr ⟨x, y, h1, h2, h3⟩
  | dT kvs =>
    obtain ⟨xs, ha, ek, rv⟩ := q
    have e : getD (.dT kvs) d = some o := e
    unfold getD at e
    cases e1 : keysD d with
    | none => simp only [e1] at e; cases e
    | some k =>
      simp only [e1] at e
      cases Option.some.inj e
      obtain ⟨b, rfl, hb⟩ := keysD_ok r e1
      refine ⟨valV xs k, .inr ⟨xs, k, b, .inl ha, rfl, hb, rfl⟩, ?_⟩
      rcases valD_ok k ek rv with ⟨h1, h2⟩ | ⟨x, y, h1, h2, h3⟩
      · exact .inl ⟨h1, h2⟩
      · exact .inr ⟨x, y, h1, h2, h3⟩
  | _ => cases e
theorem isDc_ok {ρ : Rh} {σ : L2.St} {st : S} {k : Nat} (s : Sim g ρ σ H st) (h : st.isDc k = true) (ha : ρ.ad[k]? = some a) : IsD H a := by
  unfold S.isDc at h
  cases e : st.ce[k]? with
  | none => rw [e] at h; cases h
  | some c =>
    rw [e] at h
    have q := s.cell k c a e ha
    cases c with
    | dK kvs => exact .inl ⟨_, .inl q.choose_spec.1⟩
    | dT kvs => exact .inr ⟨_, .inl q.choose_spec.1⟩
    | _ => cases h
end
def mGetB2 (i : Nat) (me mf : M) : M := fun st => match st.cellOf i with
  | some k => if st.isDc k = true then bindO (me st) fun y st1 => bindO (mf st1) fun z st2 => match st2.ce[k]? with
    | some c => match getC c y with
      | some (some r) => .ok r st2
      | some none => .ok z st2
      | none => .no
    | none => .no
    else .no
  | none => mGet2 (mVarF i) me mf st
/-- x[k], x a name: a datum, or a cell that stays one, a list or a dict -/
def mIxC (i : Nat) (mb : M) : M := fun st => match st.cellOf i with
  | some k => if st.isDc k = true then bindO (mb st) fun y st1 => match st1.ce[k]? with
    | some c => match getC c y with
      | some (some r) => .ok r st1
      | _ => .no
    | none => .no
    else mIxB i mb st
  | none => mIxB i mb st
section
variable {X : Cx} {g : G} {ER : EK} {x : Str} {e f : Expr} {me mf : M} {i : Nat} {p apos cpos pos : Pos}
theorem pe_mGetB2 (hu : X.A.units + 1 < cLine) (hx : PE X (.Name x p) (tVar i)) (he : PE X e (tM g ER me)) (hf : PE X f (tM g ER mf)) (m : M2 X (.Name x p) "get" apos e f cpos := by exact ⟨rfl, rfl, rfl, rfl⟩) : PE X (.Call (.Attribute (.Name x p) "get" apos) [e, f] [] cpos) (tM g ER (mGetB2 i me mf)) := by
  refine PEi (PE.or (pe_mGet2 hu (pe_mVarF hx) he hf m) (pe_dget2 hu hx he hf m)) fun σ H Q h => ?_
  obtain ⟨ρ, st, s, h⟩ := h
  unfold mGetB2 at h
  cases e1 : st.cellOf i with
  | none => simp only [e1] at h; exact .inl ⟨ρ, st, s, h⟩
  | some k =>
    simp only [e1] at h
    by_cases e2 : st.isDc k = true
    case neg => rw [if_neg e2] at h; exact h.elim
    rw [if_pos e2] at h
    obtain ⟨a, hu, ha⟩ := s.rf (cellOf_ok e1)
    refine .inr ⟨_, hu, a, rfl, isDc_ok s e2 ha, ρ, st, s, (OutC.bind h).mono fun y st1 ρ1 H1 x1 h1 s1 u ru => ?_⟩
    refine ⟨ρ1, st1, s1, (OutC.bind h1).mono fun z st2 ρ2 H2 x2 h2 s2 w rw' => ?_⟩
    cases e3 : st2.ce[k]? with
    | none => simp only [e3] at h2; exact h2.elim
    | some c =>
      simp only [e3] at h2
      cases e4 : getC c y with
      | none => simp only [e4] at h2; exact h2.elim
      | some r =>
        obtain ⟨ov, gd, hr⟩ := getC_ok (s2.cell k c a e3 (x2.pre k a (x1.pre k a ha))) (ru.go x2) e4
        refine ⟨ov, gd, ?_⟩
        rcases hr with ⟨rfl, rfl⟩ | ⟨z', w', rfl, rfl, rz⟩
        · simp only [e4] at h2; exact h2 ρ2 H2 Ext.refl s2 _ rw'
        · simp only [e4] at h2; exact h2 ρ2 H2 Ext.refl s2 _ rz
theorem pe_mIxC (hk : X.K = g.K) (hu : X.A.units + 1 < cLine) (hx : PE X (.Name x p) (tVar i)) (hb : PE X e (tM g ER me)) (hs : PlainIx e) (hn : NoSl e) : PE X (.Subscript (.Name x p) e pos) (tM g ER (mIxC i me)) := by
  refine PEi (PE.or (pe_mIxB hk hu hx hb hs hn) (pe_dget hu hx hb hn)) fun σ H Q h => ?_
  obtain ⟨ρ, st, s, h⟩ := h
  unfold mIxC at h
  cases e1 : st.cellOf i with
  | none => simp only [e1] at h; exact .inl ⟨ρ, st, s, h⟩
  | some k =>
    simp only [e1] at h
    by_cases e2 : st.isDc k = true
    case neg => rw [if_neg e2] at h; exact .inl ⟨ρ, st, s, h⟩
    rw [if_pos e2] at h
    obtain ⟨a, hu, ha⟩ := s.rf (cellOf_ok e1)
    refine .inr ⟨_, hu, ρ, st, s, (OutC.bind h).mono fun y st1 ρ1 H1 x1 h1 s1 u ru => ?_⟩
    cases e3 : st1.ce[k]? with
    | none => simp only [e3] at h1; exact h1.elim
    | some c =>
      simp only [e3] at h1
      cases e4 : getC c y with
      | none => simp only [e4] at h1; exact h1.elim
      | some r =>
        obtain ⟨ov, gd, hr⟩ := getC_ok (s1.cell k c a e3 (x1.pre k a ha)) ru e4
        rcases hr with ⟨rfl, rfl⟩ | ⟨z, w, rfl, rfl, rz⟩
        · simp only [e4] at h1; exact h1.elim
        · simp only [e4] at h1
          exact ⟨a, w, rfl, gd, h1 ρ1 H1 Ext.refl s1 _ rz⟩
end
end RE
set_option maxHeartbeats 4000000
namespace RE
open PySem PySem.Spec PyProof.Rows L2
end RE
set_option maxHeartbeats 4000000
namespace RE
open PySem PySem.Spec PyProof.Rows L2
def rGetL : V → V → Hp → VK → Prop := fun o i H Q => ∃ (p : Addr) (xs : List V) (j : Nat) (v : V), o = .ref p ∧ i = .int (j : Nat) ∧ H p = some (.lst xs) ∧ xs[j]? = some v ∧ Q v H
theorem get_listN {X : Cx} : PGet X rGetL := by
  intro pq s σ H o i ov iv Q I ro ri h
  obtain ⟨p, xs, j, v, rfl, rfl, hp, hj, k⟩ := h
  cases ro
  obtain ⟨t, rfl⟩ := ri
  obtain ⟨its, n, r, e, small⟩ := I.lst hp
  obtain ⟨w, hw, rw'⟩ := r.get hj
  have il : s.heap.IsList p its.toArray := ⟨_, e, rfl, n, rfl⟩
  refine wpAny_getItem_list il (k := ((j : Nat) : Int)) (by omega) ?_ (x := w) ?_ ⟨v, H, I, rw', k⟩
  · have h1 := (List.getElem?_eq_some_iff.mp hj).1
    have h2 := line63
    omega
  · rw [Int.toNat_natCast]; simpa using hw
def mAugL (f : D → D → Option D) (i : Nat) (mk mv : M) : MS := fun st => match st.cellOf i with
  | some k => bindS (mk st) fun y st1 => match y with
    | .int j => if 0 ≤ j then match st1.ce[k]? with
      | some (.l ds) => match ds[j.toNat]? with
        | some old => bindS (mv st1) fun z st2 => match f old z with
          | some r => match st2.ce[k]? with
            | some (.l es) => if j.toNat < es.length then .nx (st2.setC k (.l (es.set j.toNat r))) else .no
            | _ => .no
          | none => .no
        | none => .no
      | _ => .no
      else .no
    | _ => .no
  | none => .no
section
variable {X : Cx} {g : G} {ER : EK} {pos : Pos}
theorem ps_mAugL {op : Operator} {r : R2} {f : D → D → Option D} {o ke ve : Expr} {i : Nat} {mk mv : M} {tp : Pos} (hop : OpR X (inplaceOp op) r) (hr : ROp g r f) (ho : PE X o (tVar i)) (hk : PE X ke (tM g ER mk)) (hv : PE X ve (tM g ER mv))
    (ha : ∀ ov iv new, augStore ke ov iv new = (do holding [new, ov, iv] (setItem ov iv new); release [new, ov, iv] []; pure .next) := by intros; rfl) : PS X (.AugAssign (.Subscript o ke tp) op ve pos) (tMS g ER (mAugL f i mk mv)) := by
  refine PSi (ps_augS ho hk get_listN hv hop L2.set_list ha) fun E σ H h => ?_
  obtain ⟨ρ, st, s, h⟩ := h
  unfold mAugL at h
  cases e1 : st.cellOf i with
  | none => simp only [e1] at h; exact h.elim
  | some k =>
    simp only [e1] at h
    obtain ⟨a, hu, ha⟩ := s.rf (cellOf_ok e1)
    refine ⟨_, hu, ρ, st, s, (OutS.bind h).mono fun y st1 ρ1 H1 x1 h1 s1 u ru => ?_⟩
    have ha1 := x1.pre k a ha
    cases y with
    | int j =>
      by_cases h0 : 0 ≤ j
      case neg => simp only [if_neg h0] at h1; exact h1.elim
      simp only [if_pos h0] at h1
      obtain ⟨n, rfl⟩ := Int.eq_ofNat_of_zero_le h0
      rw [Int.toNat_natCast] at h1
      have hu1 := ru.inv_int
      subst hu1
      cases e2 : st1.ce[k]? with
      | none => simp only [e2] at h1; exact h1.elim
      | some c =>
        cases c with
        | l ds =>
          simp only [e2] at h1
          obtain ⟨xs, q1, q2⟩ := s1.cell k _ a e2 ha1
          cases e3 : ds[n]? with
          | none => simp only [e3] at h1; exact h1.elim
          | some old =>
            simp only [e3] at h1
            obtain ⟨w, hw, rw'⟩ := q2.get e3
            refine ⟨a, xs, n, w, rfl, rfl, q1, hw, ρ1, st1, s1, (OutS.bind h1).mono fun z st2 ρ2 H2 x2 h2 s2 v rv => ?_⟩
            cases e4 : f old z with
            | none => simp only [e4] at h2; exact h2.elim
            | some t =>
              simp only [e4] at h2
              cases e5 : st2.ce[k]? with
              | none => simp only [e5] at h2; exact h2.elim
              | some c2 =>
                cases c2 with
                | l es =>
                  simp only [e5] at h2
                  by_cases hz : n < es.length
                  case neg => rw [if_neg hz] at h2; exact h2.elim
                  rw [if_pos hz] at h2
                  refine hr ρ2 σ st2 H2 w v old z t _ e4 s2 (rw'.go x2) rv fun ρ3 H3 nv x3 s3 rn => ?_
                  have ha3 := x3.pre k a (x2.pre k a ha1)
                  obtain ⟨ys, q3, q4⟩ := s3.cell k _ a e5 ha3
                  have xe := Ext.setC (c := .l (es.set n t)) (o := .lst (ys.set n nv)) s3 e5 rfl ha3
                  refine ⟨a, ys, (n : Int), n, rfl, rfl, q3, ?_, h2 ρ3 σ _ (x3.trans xe) (s3.setC e5 rfl ha3 rfl ⟨_, upd_same, (q4.set rn n).ext xe.keep⟩)⟩
                  rw [q4.1]
                  unfold ixN
                  rw [if_pos (by omega), if_pos (by omega), Int.toNat_natCast]
                | _ => simp only [e5] at h2; exact h2.elim
        | _ => simp only [e2] at h1; exact h1.elim
    | _ => exact h1.elim
end
end RE
set_option maxHeartbeats 4000000
namespace RE
open PySem PySem.Spec PyProof.Rows L2
theorem RfA.uncons {ad : List Addr} {v : V} {vs : List V} {n : Nat} {ns : List Nat} (h : RfA ad (v :: vs) (n :: ns)) : (∃ b, v = .ref b ∧ ad[n]? = some b) ∧ RfA ad vs ns :=
  ⟨h.2 0 v n rfl rfl, by have := h.1; simpa using this, fun i x k h1 h2 => h.2 (i + 1) x k h1 h2⟩
theorem RfA.cons {ad : List Addr} {b : Addr} {vs : List V} {n : Nat} {ns : List Nat} (h : ad[n]? = some b) (t : RfA ad vs ns) : RfA ad (.ref b :: vs) (n :: ns) :=
  ⟨by simp [t.1], fun i x k h1 h2 => by
    cases i with
    | zero => cases Option.some.inj h1; cases Option.some.inj h2; exact ⟨b, rfl, h⟩
    | succ i => exact t.2 i x k h1 h2⟩
theorem RfA.nil {ad : List Addr} : RfA ad [] [] := ⟨rfl, fun i x k h => by simp at h⟩
/-- an expression that tells a cell -/
abbrev MC := S → O Nat
def tC (g : G) (ER : EK) (m : MC) : TE := fun σ H Q => ∃ ρ st, Sim g ρ σ H st ∧ OutC ER ρ st H (m st) fun k st' ρ' H' => Sim g ρ' σ H' st' → ∀ a, ρ'.ad[k]? = some a → Q (.ref a) H'
def cName (i : Nat) : MC := fun st => match st.cellOf i with
  | some k => .ok k st
  | none => .no
section
variable {X : Cx} {g : G} {ER : EK} {pos apos cpos : Pos} {o e : Expr} {mc : MC} {mk m : M}
theorem pe_cName {i : Nat} {x : Str} (p : PE X (.Name x pos) (tVar i)) : PE X (.Name x pos) (tC g ER (cName i)) := by
  refine PEi p fun σ H Q h => ?_
  obtain ⟨ρ, st, s, h⟩ := h
  unfold cName at h
  cases e : st.cellOf i with
  | none => simp only [e] at h; exact h.elim
  | some k =>
    simp only [e] at h
    obtain ⟨a, hu, ha⟩ := s.rf (cellOf_ok e)
    exact ⟨_, hu, h ρ H Ext.refl s a ha⟩
end
end RE
set_option maxHeartbeats 4000000
namespace RE
open PySem PySem.Spec PyProof.Rows L2
theorem SlA.uncons {g : G} {A : Addr → Prop} {ad : List Addr} {H : Hp} {v : V} {vs : List V} {s : Sl} {ss : List Sl} (h : SlA g A ad H (v :: vs) (s :: ss)) : SlV g A ad H v s ∧ SlA g A ad H vs ss :=
  ⟨h.2 0 v s rfl rfl, by have := h.1; simpa using this, fun i x k h1 h2 => h.2 (i + 1) x k h1 h2⟩
end RE
set_option maxHeartbeats 4000000
namespace RE
open PySem PySem.Spec PyProof.Rows L2
end RE
set_option maxHeartbeats 4000000
namespace RE
open PySem PySem.Spec PyProof.Rows L2
end RE
set_option maxHeartbeats 4000000
namespace RE
open PySem PySem.Spec PyProof.Rows L2
section
variable {g : G} {A : Addr → Prop} {ad : List Addr} {H : Hp}
theorem SlA.nil : SlA g A ad H [] [] := ⟨rfl, fun i v s h => by simp at h⟩
theorem SlA.cons {v : V} {vs : List V} {s : Sl} {ss : List Sl} (h : SlV g A ad H v s) (t : SlA g A ad H vs ss) : SlA g A ad H (v :: vs) (s :: ss) :=
  ⟨by simp [t.1], fun i x k h1 h2 => by
    cases i with
    | zero => cases Option.some.inj h1; cases Option.some.inj h2; exact h
    | succ i => exact t.2 i x k h1 h2⟩
end
/-- a new object, as a cell -/
structure NewC (o0 : HO) (c0 : Ce) : Prop where
  ok : ∀ (g : G) (A : Addr → Prop) (ad : List Addr) (H : Hp) (p : Addr), H p = some o0 → CeOk g A ad H p c0
def tNew (o0 : HO) : TE := fun _ H Q => ∀ p, H p = none → Q (.ref p) (upd H p o0)
theorem newL : NewC (.lst []) (.l []) := ⟨fun _ _ _ _ _ h => ⟨[], h, RpA.nil⟩⟩
end RE
set_option maxHeartbeats 4000000
namespace RE
open PySem PySem.Spec PyProof.Rows L2
theorem RfA.snoc {ad : List Addr} {b : Addr} {n : Nat} (hb : ad[n]? = some b) : ∀ {vs : List V} {ns : List Nat}, RfA ad vs ns → RfA ad (vs ++ [.ref b]) (ns ++ [n])
  | [], [], _ => RfA.cons hb RfA.nil
  | [], _ :: _, h => by have := h.1; simp at this
  | _ :: _, [], h => by have := h.1; simp at this
  | v :: vs, m :: ns, h => by
    obtain ⟨⟨b', rfl, q⟩, t⟩ := RfA.uncons h
    exact RfA.cons q (RfA.snoc hb t)
section
variable {X : Cx} {g : G} {ER : EK} {mc : MC} {mk : M} {o e : Expr} {apos cpos lp : Pos}
theorem pe_nil_new : PE X (.List [] lp) (tNew (.lst [])) := PEi (pe_lst pa_nil) fun _ _ _ h => ⟨Nat.zero_le _, h⟩
end
end RE
set_option maxHeartbeats 4000000
namespace RE
open PySem PySem.Spec PyProof.Rows L2
end RE
set_option maxHeartbeats 4000000
namespace RE
open PySem PySem.Spec PyProof.Rows L2
def mLenC (mc : MC) : M := fun st => bindO (mc st) fun k st1 => match st1.ce[k]? with
  | some (.l ds) => .ok (.int (ds.length : Nat)) st1
  | _ => .no
section
variable {X : Cx} {g : G} {ER : EK} {mc : MC} {o : Expr} {p pos : Pos}
theorem pe_mLenC (hk : X.K = g.K) (hg : Gl X "len") (hm : X.mg "len" = none) (ho : PE X o (tC g ER mc)) (hs : starEach [o] X.env = (false, eval o X.env) :: starEach [] X.env := by rfl) (hpl : (backTo pos (starEach ([] : List Expr) X.env)).any (·.1) = false := by rfl) :
    PE X (.Call (.Name "len" p) [o] [] pos) (tM g ER (mLenC mc)) := by
  refine PEi (pe_callB call_len_seq hg hm (by decide +kernel) (pa_cons ho pa_nil hs) (by decide) (by decide) hs hpl) fun σ H Q h => ?_
  obtain ⟨ρ, st, s, h⟩ := h
  refine ⟨ρ, st, s, (OutC.bind h).mono fun k st1 ρ1 H1 _ h1 s1 a ha => ?_⟩
  cases e1 : st1.ce[k]? with
  | none => simp only [e1] at h1; exact h1.elim
  | some c =>
    cases c with
    | l ds =>
      simp only [e1] at h1
      obtain ⟨xs, q1, q2⟩ := s1.cell k _ a e1 ha
      refine ⟨a, xs, rfl, .inl (SqL.of q1), ?_⟩
      rw [q2.1]
      exact h1 ρ1 H1 Ext.refl s1 _ (.int _)
    | _ => simp only [e1] at h1; exact h1.elim
end
end RE
set_option maxHeartbeats 4000000
namespace RE
open PySem PySem.Spec PyProof.Rows L2
end RE
set_option maxHeartbeats 4000000
namespace RE
open PySem PySem.Spec PyProof.Rows L2
variable {κ : Type} [DecidableEq κ] {DK : DKind κ}
variable {g : G} {ER : EK} {ρ0 ρ ρ' : Rh} {st0 st' : S} {H0 H H' : Hp} {σ σ' : L2.St} {p : Addr} {ce : List Ce} {acc : List (κ × V)} {ds : List (κ × D)}
/-- the dict that grew, a cell from here on -/
theorem GrowD.cell {i : Nat} {c : Ce} (Gr : GrowD DK g ρ0 st0 H0 σ p ρ ce H acc ds) (h0 : H0 p = none) (su : ∀ a, ρ0.U a → ∃ u, H0 a = some u)
    (hc : ∀ (A : Addr → Prop) (ad : List Addr), (∀ a o, H a = some o → ¬ Vol ρ (st0.with ce) a → H a = some o ∧ ¬ A a) → CeOk g A ad H p c) :
    Ext ρ0 st0 H0 ((ρ.lev ρ0.U).addC p) ((st0.with ce).addC i c) H ∧ Sim g ((ρ.lev ρ0.U).addC p) (σ.set i (some (.ref p))) H ((st0.with ce).addC i c) := by
  have hU : ∀ a, ρ0.U a → ρ.U a := fun a h => by rw [Gr.u]; exact .inl h
  have up : ρ.U p := by rw [Gr.u]; exact .inr rfl
  have s := Gr.sim
  have cl : (ρ.lev ρ0.U).ad.length = (st0.with ce).ce.length := s.clen
  have sub : ∀ b, Vol ((ρ.lev ρ0.U).addC p) ((st0.with ce).addC i c) b → Vol ρ (st0.with ce) b := fun b v => by
    rcases vol_addC cl v with v | v
    · exact vol_lev hU v
    · rw [v]; exact .inl up
  have kp : ∀ a o, H a = some o → ¬ Vol ρ (st0.with ce) a → H a = some o ∧ ¬ Vol ((ρ.lev ρ0.U).addC p) ((st0.with ce).addC i c) a := fun a o h n => ⟨h, fun v => n (sub a v)⟩
  have pre : ∀ (k : Nat) b, ρ.ad[k]? = some b → (ρ.ad ++ [p])[k]? = some b := fun k b h => by
    obtain ⟨hk, _⟩ := List.getElem?_eq_some_iff.mp h
    rw [List.getElem?_append_left hk]; exact h
  have part : ∀ (m : Nat) (c3 : Ce) (b : Addr), ((st0.with ce).ce ++ [c])[m]? = some c3 → (ρ.ad ++ [p])[m]? = some b → ((st0.with ce).ce[m]? = some c3 ∧ ρ.ad[m]? = some b) ∨ (m = (st0.with ce).ce.length ∧ b = p ∧ c3 = c) := fun m c3 b q1 q2 => by
    by_cases hj : m < (st0.with ce).ce.length
    · rw [List.getElem?_append_left hj] at q1
      rw [List.getElem?_append_left (by rw [s.clen]; exact hj)] at q2
      exact .inl ⟨q1, q2⟩
    · rw [List.getElem?_append_right (by omega)] at q1
      rw [List.getElem?_append_right (by rw [s.clen]; omega), s.clen] at q2
      cases e : m - (st0.with ce).ce.length with
      | zero => rw [e] at q1 q2; exact .inr ⟨by omega, (Option.some.inj q2).symm, (Option.some.inj q1).symm⟩
      | succ n => rw [e] at q1; simp at q1
  refine ⟨⟨fun a o h n => ?_, fun k b h => ?_, rfl, Gr.ext.un, fun a v => ?_, Gr.ext.mono⟩, ⟨⟨fun a h => s.uok a (hU a h), ?_, fun j c' b h1 h2 => ?_, fun j l c1 c2 b h1 h2 a1 a2 e1 e2 => ?_, fun j c' b h1 ha h2 v => ?_⟩, ?_, fun j sl v h1 h2 => ?_⟩⟩
  · obtain ⟨q1, q2⟩ := Gr.ext.keep a o h n
    refine ⟨q1, fun v => ?_⟩
    rcases vol_addC cl v with v | v
    · exact q2 v
    · rw [v, h0] at h; cases h
  · exact pre k b (Gr.ext.pre k b h)
  · rcases vol_addC cl v with v | v
    · exact Gr.ext.more a v
    · right; rw [v]; exact h0
  · show (ρ.ad ++ [p]).length = ((st0.with ce).ce ++ [c]).length
    rw [List.length_append, List.length_append, s.clen]; rfl
  · rcases part j c' b h1 h2 with ⟨q1, q2⟩ | ⟨_, q2, q3⟩
    · exact (s.cell j c' b q1 q2).ext rfl kp pre
    · rw [q2, q3]; exact hc _ _ kp
  · rcases part j c1 b h1 e1 with ⟨q1, q2⟩ | ⟨q1, q2, _⟩
    · rcases part l c2 b h2 e2 with ⟨r1, r2⟩ | ⟨_, r2, _⟩
      · exact s.inj j l c1 c2 b q1 r1 a1 a2 q2 r2
      · rw [r2] at q2; exact absurd up (s.out j c1 p q1 a1 q2)
    · rcases part l c2 b h2 e2 with ⟨r1, r2⟩ | ⟨r1, _, _⟩
      · rw [q2] at r2; exact absurd up (s.out l c2 p r1 a2 r2)
      · rw [q1, r1]
  · rcases part j c' b h1 h2 with ⟨q1, q2⟩ | ⟨_, q2, _⟩
    · exact s.out j c' b q1 ha q2 (hU b v)
    · obtain ⟨u, hu⟩ := su b v
      rw [q2, h0] at hu; cases hu
  · show (σ.set i _).length = ((st0.with ce).sl.set i _).length
    rw [List.length_set, List.length_set]; exact s.len
  · have h1 : ((st0.with ce).sl.set i (.rf (st0.with ce).ce.length))[j]? = some sl := h1
    rw [List.getElem?_set] at h1 h2
    by_cases e : i = j
    · rw [if_pos e] at h1 h2
      split at h1
      · split at h2
        · cases Option.some.inj h1
          cases Option.some.inj h2
          refine ⟨p, rfl, ?_⟩
          show (ρ.ad ++ [p])[(st0.with ce).ce.length]? = _
          rw [List.getElem?_append_right (by rw [s.clen]; exact Nat.le_refl _), s.clen, Nat.sub_self]; rfl
        · cases h2
      · cases h1
    · rw [if_neg e] at h1 h2
      exact (s.slot j sl v h1 h2).ext kp pre
end RE
set_option maxHeartbeats 4000000
namespace RE
open PySem PySem.Spec PyProof.Rows L2
end RE
set_option maxHeartbeats 4000000
namespace RE
open PySem PySem.Spec PyProof.Rows L2
def addI (a b : D) : Option D := match a, b with
  | .int i, .int j => some (.int (i + j))
  | _, _ => none
theorem rop_addI {g : G} : ROp g (rI0 fun i j => .int (i + j)) addI := by
  intro ρ σ st H x y dx dy d Q e s rx ry k
  unfold addI at e
  split at e
  · rename_i i j
    exact ⟨i, j, rx.inv_int, ry.inv_int, k ρ H _ Ext.refl s (by rw [← Option.some.inj e]; exact .int _)⟩
  · cases e
end RE
set_option maxHeartbeats 4000000
namespace RE
open PySem PySem.Spec PyProof.Rows L2
section
variable {X : Cx} {g : G} {ER : EK} {pos : Pos}
def fMul (ma mb : M) : MA := fun st => bindO (ma st) fun a st1 => bindO (mb st1) fun b st2 => match a, b with
  | .lst ds, .int k => if 0 ≤ k ∧ k ≤ 1000 ∧ ds.length ≤ 100 then .ok (List.replicate k.toNat ds).flatten st2 else .no
  | _, _ => .no
theorem pe_fMul {a b : Expr} {ma mb : M} (ha : PE X a (tM g ER ma)) (hb : PE X b (tM g ER mb)) : PE X (.BinOp a .Mult b pos) (tF g ER (fMul ma mb)) := by
  refine PEi (pe_op op_rep ha hb) fun σ H Q h => ?_
  obtain ⟨ρ, st, s, h⟩ := h
  refine ⟨ρ, st, s, (OutC.bind h).mono fun d st1 ρ1 H1 _ h1 s1 v rv => ?_⟩
  refine ⟨ρ1, st1, s1, (OutC.bind h1).mono fun e st2 ρ2 H2 x2 h2 s2 u ru => ?_⟩
  cases d with
  | lst ds =>
    cases e with
    | int k =>
      by_cases hz : 0 ≤ k ∧ k ≤ 1000 ∧ ds.length ≤ 100
      case neg => simp only [if_neg hz] at h2; exact h2.elim
      simp only [if_pos hz] at h2
      obtain ⟨q1, q2, q3⟩ := hz
      obtain ⟨a, xs, rfl, ha, na, ra⟩ := (rv.go x2).inv_lst
      refine ⟨a, k, xs, rfl, ru.inv_int, ha, by omega, by omega, ?_, h2 ρ2 H2 Ext.refl s2 _ (ra.rep _)⟩
      rw [ra.1]
      have q : ds.length * k.toNat ≤ 100 * 1000 := Nat.mul_le_mul q3 (by omega)
      exact lim_ok (by omega)
    | _ => exact h2.elim
  | _ => exact h2.elim
end
end RE
set_option maxHeartbeats 4000000
namespace RE
open PySem PySem.Spec PyProof.Rows L2
def revF : List D → Option (List D)
  | [.int n] => if big62 n = true then some ((List.range (n - 0).toNat).map fun k => D.int (0 + (((n - 0).toNat : Nat) : Int) - 1 + (k : Nat) * (-1))) else none
  | _ => none
def bitsD : List D → Option D
  | [.int i] => some (.int (Builtin.Int.intBits i : Nat))
  | _ => none
section
variable {X : Cx} {g : G} {ER : EK} {tg a : Expr} {p q pos pos' apos : Pos} {m : M}
theorem pi_mRev1 (hg : Gl X "reversed") (hm : X.mg "reversed" = none) (hg' : Gl X "range") (hm' : X.mg "range" = none) (ha : PE X a (tM g ER m)) (na : starEach [a] X.env = (false, eval a X.env) :: starEach [] X.env := by rfl)
    (hs : starEach [.Call (.Name "range" q) [a] [] pos'] X.env = (false, eval (.Call (.Name "range" q) [a] [] pos') X.env) :: starEach [] X.env := by rfl) :
    PI X tg (.Call (.Name "reversed" p) [.Call (.Name "range" q) [a] [] pos'] [] pos) (tMI g ER (miFun revF (mCons m mNil))) := by
  refine PIi (pi_revR hg hm (prg_1 hg' hm' ha na) hs) fun σ H R h => ?_
  obtain ⟨ρ, st, s, h⟩ := h
  have h := OutC.bind (OutC.bind h)
  refine ⟨ρ, st, s, h.mono fun d st1 ρ1 H1 _ h1 s1 v rv => ?_⟩
  have h1 : OutC ER ρ1 st1 H1 (optO (revF [d]) st1) _ := h1 ρ1 H1 Ext.refl
  cases e1 : revF [d] with
  | none => rw [e1] at h1; exact h1.elim
  | some es =>
    rw [e1] at h1
    unfold revF at e1
    split at e1
    · rename_i n heq
      cases heq
      split at e1
      · rename_i hz
        cases Option.some.inj e1
        obtain ⟨z1, z2⟩ := big62_ok hz
        exact ⟨n, rv.inv_int, by omega, by omega, z1, z2, h1 ρ1 H1 Ext.refl s1 _ it_rangeC⟩
      · cases e1
    · cases e1
theorem pe_mBits (ho : PE X a (tM g ER m)) (hbase : attributeBase a "bit_length" X.env (eval a X.env) = eval a X.env := by rfl) (hline : (apos.endLine == pos.line) = true := by rfl) : PE X (.Call (.Attribute a "bit_length" apos) [] [] pos) (tM g ER (mFun bitsD (mCons m mNil))) := by
  refine PEi (pe_bits ho hbase hline) fun σ H Q h => ?_
  obtain ⟨ρ, st, s, h⟩ := h
  have h := OutC.bind (OutC.bind h)
  refine ⟨ρ, st, s, h.mono fun d st1 ρ1 H1 _ h1 s1 v rv => ?_⟩
  have h1 : OutC ER ρ1 st1 H1 (optO (bitsD [d]) st1) _ := h1 ρ1 H1 Ext.refl
  cases d with
  | int i => exact ⟨i, rv.inv_int, h1 ρ1 H1 Ext.refl s1 _ (.int _)⟩
  | _ => exact h1.elim
end
end RE
set_option maxHeartbeats 4000000
namespace RE
open PySem PySem.Spec PyProof.Rows L2
end RE
set_option maxHeartbeats 4000000
namespace RE
open PySem PySem.Spec PyProof.Rows L2
section
variable {g : G} {ER : EK} {ρ0 ρ ρ' : Rh} {st0 st' : S} {H0 H H' : Hp} {σ σ' : L2.St} {p : Addr} {ce : List Ce} {acc : List V} {ds : List D}
/-- the list that grew, a cell from here on -/
theorem Grow.cell {i : Nat} {c : Ce} (Gr : Grow g ρ0 st0 H0 σ p ρ ce H acc ds) (h0 : H0 p = none) (su : ∀ a, ρ0.U a → ∃ u, H0 a = some u)
    (hc : ∀ (A : Addr → Prop) (ad : List Addr), (∀ a o, H a = some o → ¬ Vol ρ (st0.with ce) a → H a = some o ∧ ¬ A a) → CeOk g A ad H p c) :
    Ext ρ0 st0 H0 ((ρ.lev ρ0.U).addC p) ((st0.with ce).addC i c) H ∧ Sim g ((ρ.lev ρ0.U).addC p) (σ.set i (some (.ref p))) H ((st0.with ce).addC i c) := by
  have hU : ∀ a, ρ0.U a → ρ.U a := fun a h => by rw [Gr.u]; exact .inl h
  have up : ρ.U p := by rw [Gr.u]; exact .inr rfl
  have s := Gr.sim
  have cl : (ρ.lev ρ0.U).ad.length = (st0.with ce).ce.length := s.clen
  have sub : ∀ b, Vol ((ρ.lev ρ0.U).addC p) ((st0.with ce).addC i c) b → Vol ρ (st0.with ce) b := fun b v => by
    rcases vol_addC cl v with v | v
    · exact vol_lev hU v
    · rw [v]; exact .inl up
  have kp : ∀ a o, H a = some o → ¬ Vol ρ (st0.with ce) a → H a = some o ∧ ¬ Vol ((ρ.lev ρ0.U).addC p) ((st0.with ce).addC i c) a := fun a o h n => ⟨h, fun v => n (sub a v)⟩
  have pre : ∀ (k : Nat) b, ρ.ad[k]? = some b → (ρ.ad ++ [p])[k]? = some b := fun k b h => by
    obtain ⟨hk, _⟩ := List.getElem?_eq_some_iff.mp h
    rw [List.getElem?_append_left hk]; exact h
  have part : ∀ (m : Nat) (c3 : Ce) (b : Addr), ((st0.with ce).ce ++ [c])[m]? = some c3 → (ρ.ad ++ [p])[m]? = some b → ((st0.with ce).ce[m]? = some c3 ∧ ρ.ad[m]? = some b) ∨ (m = (st0.with ce).ce.length ∧ b = p ∧ c3 = c) := fun m c3 b q1 q2 => by
    by_cases hj : m < (st0.with ce).ce.length
    · rw [List.getElem?_append_left hj] at q1
      rw [List.getElem?_append_left (by rw [s.clen]; exact hj)] at q2
      exact .inl ⟨q1, q2⟩
    · rw [List.getElem?_append_right (by omega)] at q1
      rw [List.getElem?_append_right (by rw [s.clen]; omega), s.clen] at q2
      cases e : m - (st0.with ce).ce.length with
      | zero => rw [e] at q1 q2; exact .inr ⟨by omega, (Option.some.inj q2).symm, (Option.some.inj q1).symm⟩
      | succ n => rw [e] at q1; simp at q1
  refine ⟨⟨fun a o h n => ?_, fun k b h => ?_, rfl, Gr.ext.un, fun a v => ?_, Gr.ext.mono⟩, ⟨⟨fun a h => s.uok a (hU a h), ?_, fun j c' b h1 h2 => ?_, fun j l c1 c2 b h1 h2 a1 a2 e1 e2 => ?_, fun j c' b h1 ha h2 v => ?_⟩, ?_, fun j sl v h1 h2 => ?_⟩⟩
  · obtain ⟨q1, q2⟩ := Gr.ext.keep a o h n
    refine ⟨q1, fun v => ?_⟩
    rcases vol_addC cl v with v | v
    · exact q2 v
    · rw [v, h0] at h; cases h
  · exact pre k b (Gr.ext.pre k b h)
  · rcases vol_addC cl v with v | v
    · exact Gr.ext.more a v
    · right; rw [v]; exact h0
  · show (ρ.ad ++ [p]).length = ((st0.with ce).ce ++ [c]).length
    rw [List.length_append, List.length_append, s.clen]; rfl
  · rcases part j c' b h1 h2 with ⟨q1, q2⟩ | ⟨_, q2, q3⟩
    · exact (s.cell j c' b q1 q2).ext rfl kp pre
    · rw [q2, q3]; exact hc _ _ kp
  · rcases part j c1 b h1 e1 with ⟨q1, q2⟩ | ⟨q1, q2, _⟩
    · rcases part l c2 b h2 e2 with ⟨r1, r2⟩ | ⟨_, r2, _⟩
      · exact s.inj j l c1 c2 b q1 r1 a1 a2 q2 r2
      · rw [r2] at q2; exact absurd up (s.out j c1 p q1 a1 q2)
    · rcases part l c2 b h2 e2 with ⟨r1, r2⟩ | ⟨r1, _, _⟩
      · rw [q2] at r2; exact absurd up (s.out l c2 p r1 a2 r2)
      · rw [q1, r1]
  · rcases part j c' b h1 h2 with ⟨q1, q2⟩ | ⟨_, q2, _⟩
    · exact s.out j c' b q1 ha q2 (hU b v)
    · obtain ⟨u, hu⟩ := su b v
      rw [q2, h0] at hu; cases hu
  · show (σ.set i _).length = ((st0.with ce).sl.set i _).length
    rw [List.length_set, List.length_set]; exact s.len
  · have h1 : ((st0.with ce).sl.set i (.rf (st0.with ce).ce.length))[j]? = some sl := h1
    rw [List.getElem?_set] at h1 h2
    by_cases e : i = j
    · rw [if_pos e] at h1 h2
      split at h1
      · split at h2
        · cases Option.some.inj h1
          cases Option.some.inj h2
          refine ⟨p, rfl, ?_⟩
          show (ρ.ad ++ [p])[(st0.with ce).ce.length]? = _
          rw [List.getElem?_append_right (by rw [s.clen]; exact Nat.le_refl _), s.clen, Nat.sub_self]; rfl
        · cases h2
      · cases h1
    · rw [if_neg e] at h1 h2
      exact (s.slot j sl v h1 h2).ext kp pre
end
end RE
set_option maxHeartbeats 4000000
namespace RE
open PySem PySem.Spec PyProof.Rows L2
def valNd : List (D × D) → NestedKey → Option D
  | [], _ => none
  | (kd, d) :: l, k => if nkD kd = some k then some d else valNd l k
end RE
set_option maxHeartbeats 4000000
namespace RE
open PySem PySem.Spec PyProof.Rows L2
theorem fresh_kt {g : G} {ρ : Rh} {σ : L2.St} {H : Hp} {st : S} {xs : List V} {ds : List D} {Q : VK} (s : Sim g ρ σ H st) (r : RpA g (Vol ρ st) H xs ds) (k : ∀ ρ' H' v, Ext ρ st H ρ' st H' → Sim g ρ' σ H' st → Rp g (Vol ρ' st) H' v (.kt ds) → Q v H') :
    ∀ (p : Addr) (o : Obj), H p = none → o.dict = none → Q (.ref p) (upd H p (.frz o (.tup xs))) := fun p o hp hd =>
  have q := r.go (Ext.new (o := .frz o (.tup xs)) s hp)
  k ρ _ _ (Ext.new s hp) (s.new hp) (.ktup (.inr ⟨o, upd_same, hd, s.nvol hp⟩) q.1 q.2)
section
variable {X : Cx}
theorem laidK {pins : List (Addr × Obj)} {σ : L2.St} {H : Hp} {s : Shared} {xs : List V} {its : List Value} (I : Inv X pins σ H s) (hz : xs.length ≤ sizeLine) (r : Vals xs its) :
    Inv X pins σ (upd H s.heap.objs.size (.frz { cls := .type "tuple", data := .seq its.toArray } (.tup xs))) { s with heap := s.heap.push { cls := .type "tuple", data := .seq its.toArray }, toks := s.toks } :=
  I.laid (t' := s.toks) (fun _ _ e => Heap.get?_push_of_some _ e) (Nat.le_refl _) ⟨Heap.get?_push_size _ rfl, hz, its, r, IsTup.new _ _⟩
/-- tuple(xs) of a list -/
theorem ctr_tupK : CallR X (.type "tuple") (fun as H Q => ∃ p ys, as = [.ref p] ∧ ((SqL X.K H p ys ∧ ∀ l o, H l = none → o.dict = none → Q (.ref l) (upd H l (.frz o (.tup ys)))) ∨ (SqT X.K H p ys ∧ Q (.ref p) H))) := by
  intro pins s σ H as us Q I r h
  obtain ⟨p, ys, rfl, hq⟩ := h
  obtain ⟨u, rfl, rx⟩ := vals1 r
  cases rx
  rcases hq with ⟨hq, q⟩ | ⟨hq, q⟩
  · obtain ⟨its, r', pl, hz⟩ := I.list hq
    have hlen := r'.length
    refine call_tuple_list pl.isList (fun h' kp => ?_) (by simp only [List.size_toArray] <;> omega)
    have I1 : Inv X pins σ H { s with heap := h', toks := s.toks } := I.kept (t' := s.toks) kp
    exact ⟨.ref h'.objs.size, _, laidK I1 hz r', rfl, q _ _ (I1.hok.fresh (Nat.le_refl _)) rfl⟩
  · obtain ⟨its, r', pl, hz⟩ := I.tuple hq
    exact call_tuple_same pl ⟨.ref p, H, I, rfl, q⟩
/-- t + u -/
def rCatK (K : PySem.W.Frag) : R2 := fun x y H Q => ∃ a b xs ys, x = .ref a ∧ y = .ref b ∧ SqT K H a xs ∧ SqT K H b ys ∧ xs.length + ys.length ≤ sizeLine ∧
  (xs = [] → Q (.ref b) H) ∧ (xs ≠ [] → ys = [] → Q (.ref a) H) ∧ (xs ≠ [] → ys ≠ [] → ∀ p o, H p = none → o.dict = none → Q (.ref p) (upd H p (.frz o (.tup (xs ++ ys)))))
theorem op_catK : OpR X (binaryOp .Add) (rCatK X.K) := by
  intro pins s σ H x y v u Q I rx ry h
  obtain ⟨a, b, xs, ys, rfl, rfl, ha, hb, hz, q0, q1, q2⟩ := h
  cases rx
  cases ry
  obtain ⟨its, r1, p1, _⟩ := I.tuple ha
  obtain ⟨its2, r2, p2, _⟩ := I.tuple hb
  by_cases hx : xs = []
  · subst hx
    cases r1
    exact cat_tup0 p1 p2 ⟨.ref b, H, I, rfl, q0 rfl⟩
  · refine HT.cat_tup p1 p2 (fun z => hx (r1.nil_iff.mp z)) (fun z => ⟨.ref a, H, I, rfl, q1 hx (r2.nil_iff.mp z)⟩) (fun z => ?_) (by rw [← r1.length, ← r2.length]; exact hz)
    exact ⟨.ref s.heap.objs.size, _, laidK I (by rw [List.length_append]; exact hz) (r1.append r2), rfl, q2 hx (fun w => z (r2.nil_iff.mpr w)) _ _ (I.hok.fresh (Nat.le_refl _)) rfl⟩
def rSlK (K : PySem.W.Frag) : V → Option Int → Option Int → Hp → VK → Prop := fun x lo hi H Q => ∃ a xs, x = .ref a ∧ SqT K H a xs ∧
  (HT.sIx xs.length 0 lo = 0 ∧ HT.sIx xs.length xs.length hi = xs.length → Q (.ref a) H) ∧ (¬ (HT.sIx xs.length 0 lo = 0 ∧ HT.sIx xs.length xs.length hi = xs.length) → ∀ p o, H p = none → o.dict = none → Q (.ref p) (upd H p (.frz o (.tup (cutV xs lo hi)))))
theorem sl_tupK : SlR X (rSlK X.K) := by
  intro pins s σ H x v vl vu lo hi sl Q I rx hs pl pu h
  obtain ⟨a, xs, rfl, hx, q1, q2⟩ := h
  cases rx
  obtain ⟨its, r, ht, hz⟩ := I.tuple hx
  have hlen : its.toArray.size = xs.length := by rw [List.size_toArray]; exact r.length.symm
  refine ⟨"tuple", _, PyProof.Rows.slot_tuple_getitem.lookup, ht.typeIs, ?_⟩
  by_cases hw : HT.sIx xs.length 0 lo = 0 ∧ HT.sIx xs.length xs.length hi = xs.length
  · exact getItem_tuple_whole ht hs pl pu (by rw [hlen]; exact hw) ⟨.ref a, H, I, rfl, q1 hw⟩
  · refine HT.getItem_tuple_cut ht hs pl pu (by rw [hlen]; exact hw) ?_ (by rw [hlen]; exact hz)
    rw [hlen]
    have rc : Vals (cutV xs lo hi) ((its.drop (HT.sIx xs.length 0 lo)).take (HT.sIx xs.length xs.length hi - HT.sIx xs.length 0 lo)) := (r.drop _).take _
    exact ⟨.ref s.heap.objs.size, _, laidK I (by rw [rc.length, List.length_take, List.length_drop, ← r.length]; omega) rc, rfl, q2 hw _ _ (I.hok.fresh (Nat.le_refl _)) rfl⟩
end
def tupDs : D → Option (List D)
  | .tup ds => some ds
  | .kt ds => some ds
  | _ => none
theorem tupDs_ok {g : G} {A : Addr → Prop} {H : Hp} {v : V} {d : D} {ds : List D} (r : Rp g A H v d) (e : tupDs d = some ds) : ∃ a xs, v = .ref a ∧ SqT g.K H a xs ∧ RpA g A H xs ds := by
  cases d with
  | tup es => cases Option.some.inj e; obtain ⟨a, xs, rfl, h, _, q⟩ := r.inv_tup; exact ⟨a, xs, rfl, SqT.of h, q⟩
  | kt es => cases Option.some.inj e; obtain ⟨a, xs, rfl, h, q⟩ := r.inv_kt; exact ⟨a, xs, rfl, h.sq, q⟩
  | _ => cases e
def tupleKD : List D → Option D
  | [.lst ds] => some (.kt ds)
  | [.tup ds] => some (.tup ds)
  | [.kt ds] => some (.kt ds)
  | _ => none
theorem rop_tupleK {g : G} : ROpN g (fun as H Q => ∃ p ys, as = [.ref p] ∧ ((SqL g.K H p ys ∧ ∀ l o, H l = none → o.dict = none → Q (.ref l) (upd H l (.frz o (.tup ys)))) ∨ (SqT g.K H p ys ∧ Q (.ref p) H))) tupleKD := by
  intro ρ σ st H xs ds d Q e s rs k
  unfold tupleKD at e
  split at e
  · cases Option.some.inj e
    obtain ⟨v, rfl, r⟩ := rs.one
    obtain ⟨a, ys, rfl, ha, _, ra⟩ := r.inv_lst
    exact ⟨a, ys, rfl, .inl ⟨SqL.of ha, fresh_kt s ra k⟩⟩
  · cases Option.some.inj e
    obtain ⟨v, rfl, r⟩ := rs.one
    obtain ⟨a, ys, rfl, ha, na, ra⟩ := r.inv_tup
    exact ⟨a, ys, rfl, .inr ⟨SqT.of ha, k ρ H _ Ext.refl s r⟩⟩
  · cases Option.some.inj e
    obtain ⟨v, rfl, r⟩ := rs.one
    obtain ⟨a, ys, rfl, ha, ra⟩ := r.inv_kt
    exact ⟨a, ys, rfl, .inr ⟨ha.sq, k ρ H _ Ext.refl s r⟩⟩
  · cases e
def addKD (a b : D) : Option D := match a, b with
  | .int i, .int j => some (.int (i + j))
  | .lst ds, .lst es => if ds.length + es.length ≤ lim then some (.lst (ds ++ es)) else none
  | .str s, .str t => if s.length + t.length ≤ lim then some (.str (s ++ t)) else none
  | a, b => match tupDs a, tupDs b with
    | some ds, some es => if ds.length + es.length ≤ lim then (if ds.isEmpty = true then some b else if es.isEmpty = true then some a else some (.kt (ds ++ es))) else none
    | _, _ => none
theorem nilB {xs : List V} {ds : List D} (h : xs.length = ds.length) : xs = [] ↔ ds.isEmpty = true := by
  cases xs <;> cases ds <;> simp_all
def rAddK (K : PySem.W.Frag) : R2 := fun x y H Q => rI0 (fun i j => .int (i + j)) x y H Q ∨ (rCat x y H Q ∨ ((∃ i j, x = .str i ∧ y = .str j ∧ i.length + j.length ≤ sizeLine ∧ Q (.str (i ++ j)) H) ∨ rCatK K x y H Q))
theorem op_addK {X : Cx} : OpR X (binaryOp .Add) (rAddK X.K) := OpR.or op_add (OpR.or op_cat (OpR.or op_add_str op_catK))
theorem rop_addK {g : G} : ROp g (rAddK g.K) addKD := by
  intro ρ σ st H x y dx dy d Q e s rx ry k
  unfold addKD at e
  split at e
  · rename_i i j
    exact .inl ⟨i, j, rx.inv_int, ry.inv_int, k ρ H _ Ext.refl s (by rw [← Option.some.inj e]; exact .int _)⟩
  · rename_i ds es
    split at e
    · rename_i hz
      cases Option.some.inj e
      obtain ⟨a, xs, rfl, ha, _, ra⟩ := rx.inv_lst
      obtain ⟨b, ys, rfl, hb, _, rb⟩ := ry.inv_lst
      exact .inr (.inl ⟨a, b, xs, ys, rfl, rfl, ha, hb, lim_ok (by rw [ra.1, rb.1]; exact hz), fresh_lst s (ra.append rb) k⟩)
    · cases e
  · rename_i s1 s2
    split at e
    · rename_i hz
      exact .inr (.inr (.inl ⟨s1, s2, rx.inv_str, ry.inv_str, lim_ok hz, k ρ H _ Ext.refl s (by rw [← Option.some.inj e]; exact .str _)⟩))
    · cases e
  · split at e
    · rename_i ds es e1 e2
      split at e
      · rename_i hz
        obtain ⟨a, xs, rfl, ha, ra⟩ := tupDs_ok rx e1
        obtain ⟨b, ys, rfl, hb, rb⟩ := tupDs_ok ry e2
        refine .inr (.inr (.inr ⟨a, b, xs, ys, rfl, rfl, ha, hb, lim_ok (by rw [ra.1, rb.1]; exact hz), fun h => ?_, fun h1 h2 => ?_, fun h1 h2 => ?_⟩))
        · rw [if_pos ((nilB ra.1).mp h)] at e
          cases Option.some.inj e
          exact k ρ H _ Ext.refl s ry
        · rw [if_neg (fun z => h1 ((nilB ra.1).mpr z)), if_pos ((nilB rb.1).mp h2)] at e
          cases Option.some.inj e
          exact k ρ H _ Ext.refl s rx
        · rw [if_neg (fun z => h1 ((nilB ra.1).mpr z)), if_neg (fun z => h2 ((nilB rb.1).mpr z))] at e
          cases Option.some.inj e
          exact fresh_kt s (ra.append rb) k
      · cases e
    · cases e
def mTupK (ms : MA) : M := fun st => bindO (ms st) fun ds st1 => if ds.length ≤ 1000 then .ok (.kt ds) st1 else .no
def wholeB (n : Nat) (lo hi : Option Int) : Bool := decide (HT.sIx n 0 lo = 0) && decide (HT.sIx n n hi = n)
def mSlK (m : M) (lo hi : MO) : M := fun st => bindO (m st) fun d st1 => bindO (lo st1) fun l st2 => bindO (hi st2) fun u st3 => match d with
  | .lst ds => .ok (.lst (cutD ds l u)) st3
  | .tup ds => .ok (if wholeB ds.length l u = true then .tup ds else .kt (cutD ds l u)) st3
  | .kt ds => .ok (if wholeB ds.length l u = true then .kt ds else .kt (cutD ds l u)) st3
  | .ks ds => .ok (.lst (cutD ds l u)) st3
  | _ => .no
section
variable {X : Cx} {g : G} {ER : EK} {pos p2 apos cpos : Pos} {e o : Expr}
theorem pe_mTupK {es : List Expr} {ms : MA} {x1} (h : PA X es (tMA g ER ms)) : PE X (.Tuple es x1 pos) (tM g ER (mTupK ms)) := by
  refine ⟨fun pins s σ H Q I hq => ?_⟩
  obtain ⟨ρ, st, sm, hq⟩ := hq
  refine wpAny_Tuple_spliced (thn (h.run pos pins s σ H (fun xs H1 => xs.length ≤ sizeLine ∧ ∀ p o, H1 p = none → o.dict = none → Q (.ref p) (upd H1 p (.frz o (.tup xs)))) I ⟨ρ, st, sm, (OutC.bind hq).mono fun ds st1 ρ1 H1 _ h1 s1 xs rs => ?_⟩) fun us s1 ⟨xs, H1, I1, r, z, q⟩ => ⟨by rw [← r.length]; exact z, ?_⟩)
  · split at h1
    · rename_i hz
      exact ⟨by rw [rs.1]; exact Nat.le_of_lt (small1000 hz), fresh_kt s1 rs fun ρ' H' v x s' rv => h1 ρ' H' x s' v rv⟩
    · exact h1.elim
  · exact ⟨.ref s1.heap.objs.size, _, laidK I1 z r, rfl, q _ _ (I1.hok.fresh (Nat.le_refl _)) rfl⟩
theorem cut_whole {ds : List D} {l u : Option Int} (h : HT.sIx ds.length 0 l = 0 ∧ HT.sIx ds.length ds.length u = ds.length) : wholeB ds.length l u = true := by
  unfold wholeB
  rw [h.1, h.2]
  simp
theorem cut_part {n : Nat} {l u : Option Int} (h : ¬ (HT.sIx n 0 l = 0 ∧ HT.sIx n n u = n)) : ¬ wholeB n l u = true := fun z => by
  unfold wholeB at z
  obtain ⟨h1, h2⟩ := Bool.and_eq_true_iff.mp z
  exact h ⟨of_decide_eq_true h1, of_decide_eq_true h2⟩
theorem pe_mSlK {lo hi : Option Expr} {m : M} {ml mh : MO} (hk : X.K = g.K) (he : PE X e (tM g ER m)) (hl : PO X lo (tMO g ER ml)) (hh : PO X hi (tMO g ER mh)) : PE X (.Subscript e (.Slice lo hi none p2) pos) (tM g ER (mSlK m ml mh)) := by
  refine PEi (pe_slice (SlR.or sl_list sl_tupK) he hl hh) fun σ H Q h => ?_
  obtain ⟨ρ, st, s, h⟩ := h
  refine ⟨ρ, st, s, (OutC.bind h).mono fun d st1 ρ1 H1 _ h1 s1 x rx => ?_⟩
  refine ⟨ρ1, st1, s1, (OutC.bind h1).mono fun l st2 ρ2 H2 x2 h2 s2 => ?_⟩
  refine ⟨ρ2, st2, s2, (OutC.bind h2).mono fun u st3 ρ3 H3 x3 h3 s3 => ?_⟩
  have rx := (rx.go x2).go x3
  rw [hk]
  cases d with
  | lst ds =>
    obtain ⟨a, xs, rfl, ha, na, ra⟩ := rx.inv_lst
    exact .inl ⟨a, xs, rfl, SqL.of ha, fresh_lst s3 (cut_ok ra l u) fun ρ' H' v x s' r => h3 ρ' H' x s' v r⟩
  | tup ds =>
    obtain ⟨a, xs, rfl, ha, na, ra⟩ := rx.inv_tup
    refine .inr ⟨a, xs, rfl, SqT.of ha, fun z => ?_, fun z => ?_⟩
    · rw [ra.1] at z
      simp only [if_pos (cut_whole z)] at h3
      exact h3 ρ3 H3 Ext.refl s3 _ (Rp.tup' ha na ra)
    · rw [ra.1] at z
      simp only [if_neg (cut_part z)] at h3
      exact fresh_kt s3 (cut_ok ra l u) fun ρ' H' v x s' r => h3 ρ' H' x s' v r
  | kt ds =>
    have rx0 := rx
    obtain ⟨a, xs, rfl, ha, ra⟩ := rx.inv_kt
    refine .inr ⟨a, xs, rfl, ha.sq, fun z => ?_, fun z => ?_⟩
    · rw [ra.1] at z
      simp only [if_pos (cut_whole z)] at h3
      exact h3 ρ3 H3 Ext.refl s3 _ rx0
    · rw [ra.1] at z
      simp only [if_neg (cut_part z)] at h3
      exact fresh_kt s3 (cut_ok ra l u) fun ρ' H' v x s' r => h3 ρ' H' x s' v r
  | ks ds => cases rx with
    | kls h n hl q => exact .inl ⟨_, _, rfl, .inl (.inr ⟨_, h⟩), fresh_lst s3 (cut_ok ⟨hl, q⟩ l u) fun ρ' H' v x s' r => h3 ρ' H' x s' v r⟩
    | klw h hl q => exact .inl ⟨_, _, rfl, .inr h, fresh_lst s3 (cut_ok ⟨hl, q⟩ l u) fun ρ' H' v x s' r => h3 ρ' H' x s' v r⟩
  | _ => exact h3.elim
/-- a tuple that has no dict -/
def BareT (K : PySem.W.Frag) (x : V) (H : Hp) : Prop := ∃ a : Addr, x = .ref a ∧ ((∃ o : Obj, K.lookup a = some o ∧ o.cls = .type "tuple" ∧ o.dict = none) ∨ ∃ (o : Obj) (xs : List V), H a = some (.frz o (.tup xs)) ∧ o.dict = none)
theorem KT.bare {K : PySem.W.Frag} {A : Addr → Prop} {H : Hp} {a : Addr} {xs : List V} (h : KT K A H a xs) : BareT K (.ref a) H := by
  rcases h with ⟨o, _, _, h1, h2, h3, _⟩ | ⟨o, h1, h2, _⟩
  · exact ⟨a, rfl, .inl ⟨o, h1, h2, h3⟩⟩
  · exact ⟨a, rfl, .inr ⟨o, xs, h1, h2⟩⟩
theorem bare_is {pins : List (Addr × Obj)} {σ : L2.St} {H : Hp} {s : Shared} {x : V} {v : Value} (I : Inv X pins σ H s) (rv : RelV x v) (b : BareT X.K x H) : s.TypeIs v "tuple" ∧ ∀ a, v = .ref a → ∃ ob, s.heap.get? a = some ob ∧ ob.dict = none := by
  obtain ⟨a, rfl, b⟩ := b
  obtain rfl : v = .ref a := rv
  rcases b with ⟨o, h1, h2, h3⟩ | ⟨o, xs, h1, h2⟩
  · have q : s.heap.get? a = some o := I.bk a _ (I.mod.kin a _ h1)
    exact ⟨⟨o, q, h2⟩, fun c e => by cases e; exact ⟨o, q, h3⟩⟩
  · obtain ⟨q, _, its, _, o', h4, h5, _⟩ := I.hok a _ h1
    rw [q] at h4
    cases Option.some.inj h4
    exact ⟨⟨o, q, h5⟩, fun c e => by cases e; exact ⟨o, q, h2⟩⟩
end
end RE
set_option maxHeartbeats 4000000
namespace RE
open PySem PySem.Spec PyProof.Rows L2
section
variable {X : Cx} {g : G} {ER : EK} {pos p p2 : Pos} {e : Expr}
def stepIx {α : Type} (xs : List α) (lo hi st : Option Int) : List α := (sliceRange (sliceBounds lo hi st xs.length).1 (sliceBounds lo hi st xs.length).2.1 (sliceBounds lo hi st xs.length).2.2).filterMap (xs[·]?)
theorem RpA.pick {A : Addr → Prop} {H : Hp} {xs : List V} {ds : List D} (r : RpA g A H xs ds) : ∀ is : List Nat, RpA g A H (is.filterMap (xs[·]?)) (is.filterMap (ds[·]?))
  | [] => RpA.nil
  | i :: is => by
    have ih := RpA.pick r is
    cases e : ds[i]? with
    | none =>
      have e2 : xs[i]? = none := by
        rw [List.getElem?_eq_none_iff] at e ⊢
        rw [r.1]; exact e
      rw [List.filterMap_cons_none e, List.filterMap_cons_none e2]
      exact ih
    | some d =>
      obtain ⟨x, hx, rx⟩ := r.get e
      rw [List.filterMap_cons_some e, List.filterMap_cons_some hx]
      exact RpA.cons rx ih
theorem Vals.pick {xs : List V} {us : List Value} (r : Vals xs us) : ∀ is : List Nat, Vals (is.filterMap (xs[·]?)) (is.filterMap (us[·]?))
  | [] => .nil
  | i :: is => by
    have ih := Vals.pick r is
    cases e : xs[i]? with
    | none => rw [List.filterMap_cons_none e, List.filterMap_cons_none (r.none_of e)]; exact ih
    | some d =>
      obtain ⟨x, hx, rx⟩ := r.get e
      rw [List.filterMap_cons_some e, List.filterMap_cons_some hx]
      exact .cons rx ih
def tStep (K : PySem.W.Frag) (te : TE) (tl th ts : TO) : TE := fun σ H Q => te σ H fun x H1 => tl σ H1 fun l H2 => th σ H2 fun u H3 => ts σ H3 fun c H4 => c ≠ some 0 ∧ ∃ a xs, x = .ref a ∧ SqL K H4 a xs ∧ ∀ q, H4 q = none → Q (.ref q) (upd H4 q (.lst (stepIx xs l u c)))
theorem pe_step {te : TE} {lo hi stp : Option Expr} {tl th ts : TO} (he : PE X e te) (hl : PO X lo tl) (hh : PO X hi th) (hs : PO X stp ts) (hop : ∀ a b : Addr, subscripted (.Slice lo hi stp p2) false (.ref a) (.ref b) = operate [.ref a, .ref b] (getItem (.ref a) (.ref b))) : PE X (.Subscript e (.Slice lo hi stp p2) pos) (tStep X.K te tl th ts) := by
  refine ⟨fun pins s σ H Q I h => ?_⟩
  refine Subscript_ (thn (he.run pins s σ H _ I h) fun v s1 ⟨x, H1, I1, r1, q1⟩ => ?_)
  refine wpAny_Slice (thn (hl.run pins s1 σ H1 _ I1 q1) fun vl s2 ⟨l, H2, I2, pl, q2⟩ => thn (hh.run pins s2 σ H2 _ I2 q2) fun vu s3 ⟨u, H3, I3, pu, q3⟩ => thn (hs.run pins s3 σ H3 _ I3 q3) fun vs s4 ⟨c, H4, I4, ps, h0, a, xs, ex, hx, q⟩ => ?_)
  subst ex
  obtain rfl : v = Value.ref a := r1
  have I5 : Inv X pins σ H4 { s4 with heap := s4.heap.push { cls := .type "slice", data := .fields #[vl, vu, vs] }, toks := s4.toks } := I4.kept (t' := s4.toks) fun b ob q => Heap.get?_push_of_some _ q
  obtain ⟨its, r, ht, hz⟩ := I5.list hx
  have hlen := r.length
  show wpAny (model X.prog X.w) X.A (subscriptTail e (.Slice lo hi stp p2) (.ref a) (.ref s4.heap.objs.size)) (EP X pins σ Q) X.xe { s4 with heap := s4.heap.push { cls := .type "slice", data := .fields #[vl, vu, vs] } }
  refine tail_any (ops := [.ref a, .ref s4.heap.objs.size]) ht.isList.typeIs (PySem.slot_list_getitem.lookup) ?_ (hop _ _)
  refine wpAny_getItem_list_slice ht.isList (Heap.IsSliceOf.new _ vl vu vs) pl pu ps h0 ?_ (by rw [List.size_toArray]; omega)
  have ep : slicePick its.toArray l u c = (stepIx its l u c).toArray := by
    unfold slicePick stepIx
    simp
  have rp : Vals (stepIx xs l u c) (stepIx its l u c) := by
    unfold stepIx
    rw [hlen]
    exact Vals.pick r _
  have hsz := slicePick_size_le its.toArray l u c
  rw [ep] at hsz ⊢
  rw [List.size_toArray, List.size_toArray, ← rp.length, ← hlen] at hsz
  refine ⟨.ref _, _, I5.laid (t' := s4.toks) (o := .lst (stepIx xs l u c)) (fun b ob q => Heap.get?_push_of_some _ q) (Nat.le_refl _) ?_, rfl, q _ (I5.hok.fresh (Nat.le_refl _))⟩
  exact ⟨Nat.le_trans hsz hz, _, 0, rp, Heap.get?_push_size _ rfl⟩
def mStep (m : M) (lo hi stp : MO) : M := fun st => bindO (m st) fun d st1 => bindO (lo st1) fun l st2 => bindO (hi st2) fun u st3 => bindO (stp st3) fun c st4 => if c = some 0 then .no else match d with
  | .lst ds => .ok (.lst (stepIx ds l u c)) st4
  | _ => .no
theorem pe_mStep {lo hi stp : Option Expr} {m : M} {ml mh ms : MO} (hk : X.K = g.K) (he : PE X e (tM g ER m)) (hl : PO X lo (tMO g ER ml)) (hh : PO X hi (tMO g ER mh)) (hs : PO X stp (tMO g ER ms))
    (hop : ∀ a b : Addr, subscripted (.Slice lo hi stp p2) false (.ref a) (.ref b) = operate [.ref a, .ref b] (getItem (.ref a) (.ref b)) := by intro _ _; with_unfolding_all rfl) : PE X (.Subscript e (.Slice lo hi stp p2) pos) (tM g ER (mStep m ml mh ms)) := by
  refine PEi (pe_step he hl hh hs hop) fun σ H Q h => ?_
  obtain ⟨ρ, st, s, h⟩ := h
  refine ⟨ρ, st, s, (OutC.bind h).mono fun d st1 ρ1 H1 _ h1 s1 x rx => ?_⟩
  refine ⟨ρ1, st1, s1, (OutC.bind h1).mono fun l st2 ρ2 H2 x2 h2 s2 => ?_⟩
  refine ⟨ρ2, st2, s2, (OutC.bind h2).mono fun u st3 ρ3 H3 x3 h3 s3 => ?_⟩
  refine ⟨ρ3, st3, s3, (OutC.bind h3).mono fun c st4 ρ4 H4 x4 h4 s4 => ?_⟩
  by_cases hc : c = some 0
  · rw [if_pos hc] at h4; exact h4.elim
  rw [if_neg hc] at h4
  have rx := ((rx.go x2).go x3).go x4
  rw [hk]
  cases d with
  | lst ds =>
    obtain ⟨a, xs, rfl, ha, na, ra⟩ := rx.inv_lst
    have ri : RpA g (Vol ρ4 st4) H4 (stepIx xs l u c) (stepIx ds l u c) := by
      unfold stepIx
      rw [ra.1]
      exact RpA.pick ra _
    exact ⟨hc, a, xs, rfl, SqL.of ha, fresh_lst s4 ri fun ρ' H' v x s' r => h4 ρ' H' x s' v r⟩
  | _ => exact h4.elim
end
end RE
set_option maxHeartbeats 4000000
namespace RE
open PySem PySem.Spec PyProof.Rows L2
end RE
set_option maxHeartbeats 4000000
namespace RE
open PySem PySem.Spec PyProof.Rows L2
section
variable {κ : Type} [DecidableEq κ]
def putN (ds : List (κ × Nat)) (k : κ) (d : Nat) : List (κ × Nat) := if (ds.any fun e => decide (e.1 = k)) = true then ds.map (fun e => if e.1 = k then (e.1, d) else e) else ds ++ [(k, d)]
theorem putN_ok {ad : List Addr} {kvs : List (κ × V)} {ds : List (κ × Nat)} {k : κ} {b : Addr} {d : Nat} (hk : kvs.map (·.1) = ds.map (·.1)) (r : RfA ad (kvs.map (·.2)) (ds.map (·.2))) (rb : ad[d]? = some b) :
    (putK kvs k (.ref b)).map (·.1) = (putN ds k d).map (·.1) ∧ RfA ad ((putK kvs k (.ref b)).map (·.2)) ((putN ds k d).map (·.2)) := by
  have e : (kvs.any fun e => decide (e.1 = k)) = ds.any fun e => decide (e.1 = k) := by
    have a1 : (kvs.any fun e => decide (e.1 = k)) = (kvs.map (·.1)).any fun x => decide (x = k) := by rw [List.any_map]; rfl
    have a2 : (ds.any fun e => decide (e.1 = k)) = (ds.map (·.1)).any fun x => decide (x = k) := by rw [List.any_map]; rfl
    rw [a1, a2, hk]
  unfold putK putN
  rw [e]
  split
  · rename_i hany
    clear e hany
    induction kvs generalizing ds with
    | nil => cases ds with
      | nil => exact ⟨rfl, RfA.nil⟩
      | cons _ _ => cases hk
    | cons x xs ih => cases ds with
      | nil => cases hk
      | cons y ys =>
        have h1 : x.1 = y.1 := (List.cons.inj hk).1
        have h2 : xs.map (·.1) = ys.map (·.1) := (List.cons.inj hk).2
        obtain ⟨⟨c, ec, hc⟩, r2⟩ := RfA.uncons r
        obtain ⟨i1, i2⟩ := ih h2 r2
        by_cases hx : x.1 = k
        · have hy : y.1 = k := by rw [← h1]; exact hx
          simp only [List.map_cons, if_pos hx, if_pos hy]
          exact ⟨by rw [h1]; exact congrArg _ i1, RfA.cons rb i2⟩
        · have hy : ¬ y.1 = k := by rw [← h1]; exact hx
          simp only [List.map_cons, if_neg hx, if_neg hy]
          rw [show x.2 = .ref c from ec]
          exact ⟨by rw [h1]; exact congrArg _ i1, RfA.cons hc i2⟩
  · rw [List.map_append, List.map_append, List.map_append, List.map_append, hk]
    exact ⟨rfl, RfA.snoc rb r⟩
variable (DK : DKind κ)
structure GrowR (g : G) (ρ0 : Rh) (st0 : S) (H0 : Hp) (σ : L2.St) (p : Addr) (ρ : Rh) (ce : List Ce) (H : Hp) (acc : List (κ × V)) (ds : List (κ × Nat)) : Prop where
  ext : Ext ρ0 st0 H0 (ρ.lev ρ0.U) (st0.with ce) H
  u : ρ.U = (ρ0.ent p).U
  sim : Sim g ρ σ H (st0.with ce)
  at' : H p = some (DK.ho acc)
  ks : acc.map (·.1) = ds.map (·.1)
  rf : RfA ρ.ad (acc.map (·.2)) (ds.map (·.2))
variable {DK}
variable {g : G} {ER : EK} {ρ0 ρ ρ' : Rh} {st0 st' : S} {H0 H H' : Hp} {σ σ' : L2.St} {p : Addr} {ce : List Ce} {acc : List (κ × V)} {ds : List (κ × Nat)}
theorem GrowR.zero (s : Sim g ρ0 σ H0 st0) (hp : H0 p = none) : GrowR DK g ρ0 st0 H0 σ p (ρ0.ent p) st0.ce (upd H0 p (DK.ho [])) [] [] where
  ext := Ext.zero hp s.uo
  u := rfl
  sim := s.ent hp (DK.nt _)
  at' := upd_same
  ks := rfl
  rf := RfA.nil
theorem GrowR.go (G : GrowR DK g ρ0 st0 H0 σ p ρ ce H acc ds) (h0 : H0 p = none) {stw : S} (hw : stw.ce = ce) (e : Ext ρ stw H ρ' st' H') (c : Cells g ρ' H' st') : GrowR DK g ρ0 st0 H0 σ p ρ' st'.ce H' acc ds where
  ext := Ext.step_lev G.ext G.u h0 (e.with hw)
  u := e.same.trans G.u
  sim := G.sim.back (e.with hw) c
  at' := by rw [e.un p (by rw [G.u]; exact .inr rfl)]; exact G.at'
  ks := G.ks
  rf := G.rf.go e.pre
theorem GrowR.push (G : GrowR DK g ρ0 st0 H0 σ p ρ ce H acc ds) (h0 : H0 p = none) (su : ∀ a, ρ0.U a → ∃ u, H0 a = some u) {k : κ} {b : Addr} {d : Nat} (r : ρ.ad[d]? = some b) : GrowR DK g ρ0 st0 H0 σ p ρ ce (upd H p (DK.ho (putK acc k (.ref b)))) (putK acc k (.ref b)) (putN ds k d) where
  ext := Ext.touch G.ext h0 su
  u := G.u
  sim := G.sim.touch (by rw [G.u]; exact .inr rfl) (DK.nt _)
  at' := upd_same
  ks := (putN_ok G.ks G.rf r).1
  rf := (putN_ok G.ks G.rf r).2
theorem GrowR.kp (Gr : GrowR DK g ρ0 st0 H0 σ p ρ ce H acc ds) (hp : H0 p = none) : ∀ a o, H0 a = some o → ¬ Vol ρ0 st0 a → H a = some o ∧ ¬ Vol ρ (st0.with ce) a := fun a o h n => by
  obtain ⟨h1, n1⟩ := Gr.ext.keep a o h n
  refine ⟨h1, fun v => ?_⟩
  rcases v with v | v
  · rw [Gr.u] at v
    rcases v with v | v
    · exact n1 (.inl v)
    · rw [v, hp] at h; cases h
  · exact n1 (.inr v)
/-- the dict that grew, a cell from here on: what it holds is told by cells, so the same road as for data -/
theorem GrowR.cell {i : Nat} {c : Ce} (Gr : GrowR DK g ρ0 st0 H0 σ p ρ ce H acc ds) (h0 : H0 p = none) (su : ∀ a, ρ0.U a → ∃ u, H0 a = some u)
    (hc : ∀ (A : Addr → Prop) (ad : List Addr), (∀ (k : Nat) b, ρ.ad[k]? = some b → ad[k]? = some b) → CeOk g A ad H p c) :
    Ext ρ0 st0 H0 ((ρ.lev ρ0.U).addC p) ((st0.with ce).addC i c) H ∧ Sim g ((ρ.lev ρ0.U).addC p) (σ.set i (some (.ref p))) H ((st0.with ce).addC i c) := by
  have hU : ∀ a, ρ0.U a → ρ.U a := fun a h => by rw [Gr.u]; exact .inl h
  have up : ρ.U p := by rw [Gr.u]; exact .inr rfl
  have s := Gr.sim
  have cl : (ρ.lev ρ0.U).ad.length = (st0.with ce).ce.length := s.clen
  have sub : ∀ b, Vol ((ρ.lev ρ0.U).addC p) ((st0.with ce).addC i c) b → Vol ρ (st0.with ce) b := fun b v => by
    rcases vol_addC cl v with v | v
    · exact vol_lev hU v
    · rw [v]; exact .inl up
  have kp : ∀ a o, H a = some o → ¬ Vol ρ (st0.with ce) a → H a = some o ∧ ¬ Vol ((ρ.lev ρ0.U).addC p) ((st0.with ce).addC i c) a := fun a o h n => ⟨h, fun v => n (sub a v)⟩
  have pre : ∀ (k : Nat) b, ρ.ad[k]? = some b → (ρ.ad ++ [p])[k]? = some b := fun k b h => by
    obtain ⟨hk, _⟩ := List.getElem?_eq_some_iff.mp h
    rw [List.getElem?_append_left hk]; exact h
  have part : ∀ (m : Nat) (c3 : Ce) (b : Addr), ((st0.with ce).ce ++ [c])[m]? = some c3 → (ρ.ad ++ [p])[m]? = some b → ((st0.with ce).ce[m]? = some c3 ∧ ρ.ad[m]? = some b) ∨ (m = (st0.with ce).ce.length ∧ b = p ∧ c3 = c) := fun m c3 b q1 q2 => by
    by_cases hj : m < (st0.with ce).ce.length
    · rw [List.getElem?_append_left hj] at q1
      rw [List.getElem?_append_left (by rw [s.clen]; exact hj)] at q2
      exact .inl ⟨q1, q2⟩
    · rw [List.getElem?_append_right (by omega)] at q1
      rw [List.getElem?_append_right (by rw [s.clen]; omega), s.clen] at q2
      cases e : m - (st0.with ce).ce.length with
      | zero => rw [e] at q1 q2; exact .inr ⟨by omega, (Option.some.inj q2).symm, (Option.some.inj q1).symm⟩
      | succ n => rw [e] at q1; simp at q1
  refine ⟨⟨fun a o h n => ?_, fun k b h => ?_, rfl, Gr.ext.un, fun a v => ?_, Gr.ext.mono⟩, ⟨⟨fun a h => s.uok a (hU a h), ?_, fun j c' b h1 h2 => ?_, fun j l c1 c2 b h1 h2 a1 a2 e1 e2 => ?_, fun j c' b h1 ha h2 v => ?_⟩, ?_, fun j sl v h1 h2 => ?_⟩⟩
  · obtain ⟨q1, q2⟩ := Gr.ext.keep a o h n
    refine ⟨q1, fun v => ?_⟩
    rcases vol_addC cl v with v | v
    · exact q2 v
    · rw [v, h0] at h; cases h
  · exact pre k b (Gr.ext.pre k b h)
  · rcases vol_addC cl v with v | v
    · exact Gr.ext.more a v
    · right; rw [v]; exact h0
  · show (ρ.ad ++ [p]).length = ((st0.with ce).ce ++ [c]).length
    rw [List.length_append, List.length_append, s.clen]; rfl
  · rcases part j c' b h1 h2 with ⟨q1, q2⟩ | ⟨_, q2, q3⟩
    · exact (s.cell j c' b q1 q2).ext rfl kp pre
    · rw [q2, q3]; exact hc _ _ pre
  · rcases part j c1 b h1 e1 with ⟨q1, q2⟩ | ⟨q1, q2, _⟩
    · rcases part l c2 b h2 e2 with ⟨r1, r2⟩ | ⟨_, r2, _⟩
      · exact s.inj j l c1 c2 b q1 r1 a1 a2 q2 r2
      · rw [r2] at q2; exact absurd up (s.out j c1 p q1 a1 q2)
    · rcases part l c2 b h2 e2 with ⟨r1, r2⟩ | ⟨r1, _, _⟩
      · rw [q2] at r2; exact absurd up (s.out l c2 p r1 a2 r2)
      · rw [q1, r1]
  · rcases part j c' b h1 h2 with ⟨q1, q2⟩ | ⟨_, q2, _⟩
    · exact s.out j c' b q1 ha q2 (hU b v)
    · obtain ⟨u, hu⟩ := su b v
      rw [q2, h0] at hu; cases hu
  · show (σ.set i _).length = ((st0.with ce).sl.set i _).length
    rw [List.length_set, List.length_set]; exact s.len
  · have h1 : ((st0.with ce).sl.set i (.rf (st0.with ce).ce.length))[j]? = some sl := h1
    rw [List.getElem?_set] at h1 h2
    by_cases e : i = j
    · rw [if_pos e] at h1 h2
      split at h1
      · split at h2
        · cases Option.some.inj h1
          cases Option.some.inj h2
          refine ⟨p, rfl, ?_⟩
          show (ρ.ad ++ [p])[(st0.with ce).ce.length]? = _
          rw [List.getElem?_append_right (by rw [s.clen]; exact Nat.le_refl _), s.clen, Nat.sub_self]; rfl
        · cases h2
      · cases h1
    · rw [if_neg e] at h1 h2
      exact (s.slot j sl v h1 h2).ext kp pre
end
end RE
set_option maxHeartbeats 4000000
namespace RE
open PySem PySem.Spec PyProof.Rows L2
end RE
set_option maxHeartbeats 4000000
namespace RE
open PySem PySem.Spec PyProof.Rows L2
end RE
set_option maxHeartbeats 4000000
namespace RE
open PySem PySem.Spec PyProof.Rows L2
end RE
set_option maxHeartbeats 4000000
namespace RE
open PySem PySem.Spec PyProof.Rows L2
end RE
set_option maxHeartbeats 4000000
namespace RE
open PySem PySem.Spec PyProof.Rows L2
end RE
set_option maxHeartbeats 4000000
namespace RE
open PySem PySem.Spec PyProof.Rows L2
end RE
set_option maxHeartbeats 4000000
namespace RE
open PySem PySem.Spec PyProof.Rows L2
end RE
set_option maxHeartbeats 4000000
namespace RE
open PySem PySem.Spec PyProof.Rows L2
def SqB (K : PySem.W.Frag) (H : Hp) (k : Bool) (a : Addr) (xs : List V) : Prop := if k = true then SqL K H a xs else SqT K H a xs
def ItB (h : Heap) (k : Bool) (it a : Addr) (i : Nat) : Prop := if k = true then h.IsListIter it a i else h.IsTupleIter it a i
theorem ItB.ob {h : Heap} {k : Bool} {it a : Addr} {i : Nat} (x : ItB h k it a i) : ∃ o, h.get? it = some o ∧ ∀ v, o.data ≠ .cell v := by
  cases k
  · obtain ⟨o, e, _, d⟩ := (show h.IsTupleIter it a i from x)
    exact ⟨o, e, fun v q => by rw [d] at q; cases q⟩
  · obtain ⟨o, e, _, d⟩ := (show h.IsListIter it a i from x)
    exact ⟨o, e, fun v q => by rw [d] at q; cases q⟩
theorem ItB.at {h h' : Heap} {k : Bool} {it a : Addr} {i : Nat} (x : ItB h k it a i) (e : ∀ o, h.get? it = some o → h'.get? it = some o) : ItB h' k it a i := by
  cases k
  · exact (show h.IsTupleIter it a i from x).at e
  · exact (show h.IsListIter it a i from x).at e
section
variable {X : Cx} {pq : List (Addr × Obj)} {σ : L2.St} {H : Hp} {s : Shared}
theorem sqb_it {k : Bool} {it a : Addr} {i : Nat} {xs : List V} (I : Inv X pq σ H s) (h : SqB X.K H k a xs) (t : ItB s.heap k it a i) : ∃ us : List Value, Vals xs us ∧ a < s.heap.objs.size ∧ (if k = true then s.heap.IsList a us.toArray else s.heap.IsTuple a us.toArray) ∧ SqIt s.heap it a i us.toArray := by
  cases k
  · obtain ⟨its, rv, p, _⟩ := I.tuple (show SqT X.K H a xs from h)
    obtain ⟨o, ho, _⟩ := id p
    exact ⟨its, rv, Heap.lt_size ho, p, .inr ⟨t, p⟩⟩
  · obtain ⟨its, rv, p, _⟩ := I.list (show SqL X.K H a xs from h)
    exact ⟨its, rv, p.lt, p.isList, .inl ⟨t, p.isList⟩⟩
end
section
variable {prog : Program} {w : World} {A : Around} {it l : Addr} {xs : Array Value}
theorem sqDraws (calm : A.handled = none) (ne : l ≠ it) : Draws prog w A it [it, l] xs.size (fun j v => xs[j]? = some v) (fun j h => SqIt h it l j xs) where
  live := fun i h x => by
    rcases x with ⟨⟨o, e, _⟩, _⟩ | ⟨⟨o, e, _⟩, _⟩
    · exact ⟨o, e⟩
    · exact ⟨o, e⟩
  frame := fun i h h' x k => x.go fun c o hc e => k c (by rcases hc with rfl | rfl <;> simp) o e
  item := fun i s Q E hi st hQ => by
    have hx : xs[i]? = some xs[i] := Array.getElem?_eq_getElem hi
    exact sq_next st ne hx fun h' x sb => hQ _ h' s.toks hx x sb
  done := fun s Q E st hE => sq_end calm st (by simp) hE
/-- at an end: it does not matter how far it stands -/
theorem endDraws (calm : A.handled = none) {i : Nat} (hx : xs[i]? = none) : Draws prog w A it [it, l] i (fun _ _ => True) (fun j h => j = i ∧ SqIt h it l j xs) where
  live := fun j h x => by
    rcases x.2 with ⟨⟨o, e, _⟩, _⟩ | ⟨⟨o, e, _⟩, _⟩
    · exact ⟨o, e⟩
    · exact ⟨o, e⟩
  frame := fun j h h' x k => ⟨x.1, x.2.go fun c o hc e => k c (by rcases hc with rfl | rfl <;> simp) o e⟩
  item := fun j s Q E hi st hQ => absurd st.1 (Nat.ne_of_lt hi)
  done := fun s Q E st hE => sq_end calm st.2 hx hE
/-- in either case -/
theorem someDraws (calm : A.handled = none) (ne : l ≠ it) {h : Heap} {i : Nat} (st : SqIt h it l i xs) : ∃ (n : Nat) (P : Nat → Value → Prop) (St : Nat → Heap → Prop), Draws prog w A it [it, l] n P St ∧ St i h ∧ i ≤ n ∧ (xs.size ≤ i → i = n) := by
  by_cases hx : i < xs.size
  · exact ⟨_, _, _, sqDraws calm ne, st, Nat.le_of_lt hx, fun z => absurd z (by omega)⟩
  · exact ⟨_, _, _, endDraws calm (by simp; omega), ⟨rfl, st⟩, Nat.le_refl _, fun _ => rfl⟩
end
theorem ane {a n : Nat} (la : a < n) (k : Nat) : (a : Addr) ≠ n + k ∧ ((n + k : Nat) : Addr) ≠ a := ⟨Nat.ne_of_lt (Nat.lt_of_lt_of_le la (Nat.le_add_right _ _)), Nat.ne_of_gt (Nat.lt_of_lt_of_le la (Nat.le_add_right _ _))⟩
end RE
set_option maxHeartbeats 4000000
namespace RE
open PySem PySem.Spec PyProof.Rows L2
def oB (k : Bool) (a : Addr) : Obj := if k = true then { cls := .type "list_iterator", data := .fields #[.ref a, .int 0 0] } else { cls := .type "tuple_iterator", data := .fields #[.ref a, .int 0 0] }
def BgH (k : Bool) (a : Addr) (us : List Value) (h : Heap) : Prop := if k = true then h.IsList a us.toArray else h.IsTuple a us.toArray
theorem begB (k : Bool) (a : Addr) (us : List Value) : Begins (.ref a) (oB k a) (BgH k a us) := by
  cases k
  · exact begins_tuple a us.toArray
  · exact begins_list a us.toArray
theorem itB0 {h : Heap} {k : Bool} {a : Addr} {it : Addr} (e : h.get? it = some (oB k a)) : ItB h k it a 0 := by
  cases k
  · exact (⟨_, e, rfl, rfl⟩ : h.IsTupleIter it a 0)
  · exact (⟨_, e, rfl, rfl⟩ : h.IsListIter it a 0)
theorem sqb_bg {X : Cx} {pq : List (Addr × Obj)} {σ : L2.St} {H : Hp} {s : Shared} {k : Bool} {a : Addr} {xs : List V} (I : Inv X pq σ H s) (h : SqB X.K H k a xs) : ∃ us : List Value, a < s.heap.objs.size ∧ BgH k a us s.heap := by
  cases k
  · obtain ⟨its, rv, p, _⟩ := I.tuple (show SqT X.K H a xs from h)
    obtain ⟨o, ho, _⟩ := id p
    exact ⟨its, Heap.lt_size ho, p⟩
  · obtain ⟨its, rv, p, _⟩ := I.list (show SqL X.K H a xs from h)
    exact ⟨its, p.lt, p.isList⟩
section
variable {g : G} {ρ : Rh} {st : S} {H : Hp}
/-- a sequence that stands, of either kind -/
def At3 (g : G) (ρ : Rh) (st : S) (H : Hp) (k : Bool) (a : Addr) (xs : List V) : Prop := if k = true then H a = some (.lst xs) ∧ ¬ Vol ρ st a else (H a = some (.tup xs) ∧ ¬ Vol ρ st a) ∨ KT g.K (Vol ρ st) H a xs
theorem At3.sq {k : Bool} {a : Addr} {xs : List V} {B : Addr → Prop} {H' : Hp} (h : At3 g ρ st H k a xs) (kp : ∀ a o, H a = some o → ¬ Vol ρ st a → H' a = some o ∧ ¬ B a) : SqB g.K H' k a xs := by
  cases k
  · rcases (show (H a = some (.tup xs) ∧ ¬ Vol ρ st a) ∨ KT g.K (Vol ρ st) H a xs from h) with ⟨h, n⟩ | h
    · exact (SqT.of (kp a _ h n).1 : SqT g.K H' a xs)
    · exact ((h.ext kp).sq : SqT g.K H' a xs)
  · obtain ⟨h, n⟩ := (show H a = some (.lst xs) ∧ ¬ Vol ρ st a from h)
    exact (SqL.of (kp a _ h n).1 : SqL g.K H' a xs)
theorem at3_of {v : V} {d : D} {ds : List D} (r : Rp g (Vol ρ st) H v d) (e : seqW d = some ds) : ∃ k a xs, v = .ref a ∧ At3 g ρ st H k a xs ∧ RpA g (Vol ρ st) H xs ds := by
  by_cases hl : isL d = true
  · cases d with
    | lst d1 =>
      cases Option.some.inj (seqW_ok e)
      obtain ⟨a, xs, rfl, ha, na, ra⟩ := r.inv_lst
      exact ⟨true, a, xs, rfl, ⟨ha, na⟩, ra⟩
    | _ => cases hl
  · have hl : isL d = false := by cases h : isL d <;> simp_all
    obtain ⟨a, xs, rfl, ha, ra⟩ := r.seqT e hl
    exact ⟨false, a, xs, rfl, ha, ra⟩
end
end RE
set_option maxHeartbeats 4000000
namespace RE
open PySem PySem.Spec PyProof.Rows L2
def Itz2 (K : PySem.W.Frag) (k1 k2 : Bool) (a b : Addr) (xs ys : List V) : It :=
  ⟨fun i H => (SqB K H k1 a xs ∧ SqB K H k2 b ys) ∧ i < xs.length ∧ i < ys.length,
    fun i H v H' => ∃ T x y, xs[i]? = some x ∧ ys[i]? = some y ∧ v = .ref T ∧ H T = none ∧ H' = upd H T (.tup [x, y]),
    fun i H => (SqB K H k1 a xs ∧ SqB K H k2 b ys) ∧ (xs.length ≤ i ∨ ys.length ≤ i)⟩
theorem sep2 {n a b : Nat} (la : a < n) (lb : b < n) : ZipSep2 (n + 4) (n + 2) (n + 3) n (n + 1) [n, a] [n + 1, b] := by
  have a0 := (ane la 0).2; have b0 := (ane lb 0).2
  have a0 : ¬ n = a := a0; have b0 : ¬ n = b := b0
  constructor <;> simp [(ane la 1).2, (ane la 2).2, (ane la 3).2, (ane la 4).2, (ane la 5).2, (ane lb 1).2, (ane lb 2).2, (ane lb 3).2, (ane lb 4).2, (ane lb 5).2, a0, b0]
theorem turn_zip2m {P : Program} {w : World} {K : PySem.W.Frag} {elts : List Expr} {kk : Nat} {tpos : Pos} {k1 k2 : Bool} {a b n : Nat} {xs ys : List V} (la : a < n) (lb : b < n) :
    Turn P w K (.Tuple elts kk tpos) (Itz2 K k1 k2 a b xs ys) [n + 4, n + 2, n + 3, n, n + 1] (n + 4) (fun i h => IsZip h (n + 4) (n + 2) (n + 3) .none ∧ IsTupOf2 h (n + 2) (.ref n) (.ref (n + 1)) ∧ (∃ x y, IsTupOf2 h (n + 3) x y) ∧ ItB h k1 n a i ∧ ItB h k2 (n + 1) b i) where
  mem := by simp
  obj := fun i h st d hd => by
    obtain ⟨hz, hTI, ⟨x, y, hTO⟩, q1, q2⟩ := st
    have e' : d = n + 4 ∨ d = n + 2 ∨ d = n + 3 ∨ d = n ∨ d = n + 1 := by simpa using hd
    rcases e' with q | q | q | q | q
    · rw [q]; exact ⟨_, hz, fun v q => nomatch q⟩
    · rw [q]; exact ⟨_, hTI, fun v q => nomatch q⟩
    · rw [q]; exact ⟨_, hTO, fun v q => nomatch q⟩
    · rw [q]; exact q1.ob
    · rw [q]; exact q2.ob
  keep := fun i h h' st k => by
    obtain ⟨hz, hTI, ⟨x, y, hTO⟩, q1, q2⟩ := st
    exact ⟨k _ (by simp) _ hz, k _ (by simp) _ hTI, ⟨x, y, k _ (by simp) _ hTO⟩, q1.at fun o q => k n (by simp) o q, q2.at fun o q => k _ (by simp) o q⟩
  item := by
    intro X hP hw hK hc i pins s σ H E I hf st hg
    subst hP hw hK
    obtain ⟨hz, hTI, ⟨x0, y0, hTO⟩, q1, q2⟩ := st
    obtain ⟨⟨g1, g2⟩, l1, l2⟩ := hg
    have calm : X.A.in1.handled = none := I.ok.hd hc
    obtain ⟨us1, r1, _, c1, t1⟩ := sqb_it I g1 q1
    obtain ⟨us2, r2, _, c2, t2⟩ := sqb_it I g2 q2
    have m1 := r1.length
    have m2 := r2.length
    have hzl : n + 4 < s.heap.objs.size := Heap.lt_size hz
    refine wpAny_pyNext_zipD2_item (sep2 la lb) (sqDraws calm (ane la 0).1) (sqDraws calm (ane lb 1).1) hz hTI hTO t1 t2 (by rw [List.size_toArray]; omega) (by rw [List.size_toArray]; omega) fun u1 u2 h' tk e1 e2 z' TO' s1' s2' hT hsz hk => ?_
    have hx : xs[i]? = some xs[i] := List.getElem?_eq_getElem l1
    have hy : ys[i]? = some ys[i] := List.getElem?_eq_getElem l2
    obtain ⟨w1, hw1, rw1⟩ := r1.get hx
    obtain ⟨w2, hw2, rw2⟩ := r2.get hy
    have e1 : us1[i]? = some u1 := by simpa using e1
    have e2 : us2[i]? = some u2 := by simpa using e2
    rw [hw1] at e1
    rw [hw2] at e2
    cases Option.some.inj e1
    cases Option.some.inj e2
    refine ⟨_, rfl, wpAny_letOwnedTupleGo_zip (s := { s with heap := h', toks := tk }) z' fun h'' z'' sb => ?_⟩
    have hT2 : h''.get? s.heap.objs.size = some { cls := .type "tuple", data := .seq #[u1, u2] } := (sb.2 _ (Nat.ne_of_gt hzl)).trans hT
    have new : ObjOk X.prog X.w (upd H s.heap.objs.size (.tup [xs[i], ys[i]])) h'' s.heap.objs.size (.tup [xs[i], ys[i]]) :=
      ⟨by show 2 ≤ sizeLine; decide, [u1, u2], .cons rw1 (.cons rw2 .nil), ⟨_, hT2, rfl, _, rfl⟩⟩
    have I1 : Inv X pins σ (upd H s.heap.objs.size (.tup [xs[i], ys[i]])) { s with heap := h'', toks := tk } :=
      I.turnedNew (t' := tk) (ch := [n + 4, n + 2, n + 3, n, n + 1]) (fun d o hb q => (sb.2 d (fun q' => hb (by simp [q']))).trans (hk d o (fun q' => hb (by simp [q'])) (fun q' => hb (by simp [q'])) (fun q' => hb (by simp [q'])) (fun q' => hb (by simp [q'])) q)) hf (Nat.le_refl _) new
    have go : ∀ {k : Bool} {it a : Addr} {us : List Value}, it ≠ n + 4 → ItB s.heap k it a i → (if k = true then s.heap.IsList a us.toArray else s.heap.IsTuple a us.toArray) → (∀ o, s.heap.get? a = some o → h'.get? a = some o) → SqIt h' it a (i + 1) us.toArray → ItB h'' k it a (i + 1) := fun {k it a us} nz _ lt ka sq => by
      have up : ∀ o, h'.get? it = some o → h''.get? it = some o := fun o q => (sb.2 _ nz).trans q
      cases k with
      | true =>
        obtain ⟨oa, ha, hca, _⟩ := (show s.heap.IsList a us.toArray from lt)
        rcases sq with ⟨x, _⟩ | ⟨_, y⟩
        · exact (show h'.IsListIter it a (i + 1) from x).at up
        · obtain ⟨ob, hb, hcb, _⟩ := y
          rw [ka _ ha] at hb
          cases Option.some.inj hb
          rw [hca] at hcb
          simp at hcb
      | false =>
        obtain ⟨oa, ha, hca, _⟩ := (show s.heap.IsTuple a us.toArray from lt)
        rcases sq with ⟨_, y⟩ | ⟨x, _⟩
        · obtain ⟨ob, hb, hcb, _⟩ := y
          rw [ka _ ha] at hb
          cases Option.some.inj hb
          rw [hca] at hcb
          simp at hcb
        · exact (show h'.IsTupleIter it a (i + 1) from x).at up
    have kl : ∀ {d : Addr}, d < n → ∀ o, s.heap.get? d = some o → h'.get? d = some o := fun {d} ld o q => hk d o (ane ld 4).1 (ane ld 3).1 (ane ld 0).1 (ane ld 1).1 q
    refine ⟨.ref s.heap.objs.size, _, I1, rfl, ⟨_, _, _, hx, hy, rfl, I.hok.fresh (Nat.le_refl _), rfl⟩, ⟨z'', ?_, ⟨u1, u2, ?_⟩, go (by simp) q1 c1 (kl la) s1', go (by simp) q2 c2 (kl lb) s2'⟩, fun d hcm => ?_⟩
    · exact (sb.2 _ (by simp)).trans (hk _ _ (by simp) (by simp) (by simp) (by simp) hTI)
    · exact (sb.2 _ (by simp)).trans TO'
    · have hlt : d < s.heap.objs.size := by
        have e' : d = n + 4 ∨ d = n + 2 ∨ d = n + 3 ∨ d = n ∨ d = n + 1 := by simpa using hcm
        rcases e' with q | q | q | q | q
        · rw [q]; exact hzl
        · rw [q]; exact Heap.lt_size hTI
        · rw [q]; exact Heap.lt_size hTO
        · rw [q]; exact Nat.lt_of_le_of_lt (Nat.le_add_right n 4) hzl
        · rw [q]; exact Nat.lt_of_le_of_lt (Nat.add_le_add_left (by decide : 1 ≤ 4) n) hzl
      rw [upd_ne (Nat.ne_of_lt hlt)]
      exact (hf d hcm).1
  done := by
    intro X hP hw hK hc i pins s σ H E I hf st hg
    subst hP hw hK
    obtain ⟨hz, hTI, ⟨x0, y0, hTO⟩, q1, q2⟩ := st
    obtain ⟨⟨g1, g2⟩, hend⟩ := hg
    have calm : X.A.in1.handled = none := I.ok.hd hc
    obtain ⟨us1, r1, _, _, t1⟩ := sqb_it I g1 q1
    obtain ⟨us2, r2, _, _, t2⟩ := sqb_it I g2 q2
    have m1 := r1.length
    have m2 := r2.length
    obtain ⟨n1, P1, S1, D1, b1, le1, f1⟩ := someDraws (prog := X.prog) (w := X.w) calm (ane la 0).1 t1
    obtain ⟨n2, P2, S2, D2, b2, le2, f2⟩ := someDraws (prog := X.prog) (w := X.w) calm (ane lb 1).1 t2
    rw [List.size_toArray] at f1 f2
    refine wpAny_pyNext_zipD2_end (sep2 la lb) D1 D2 hz hTI hTO b1 b2 le1 le2 ?_ fun h' tk hk => ⟨rfl, I.turnedL (t' := tk) (ch := [n + 4, n + 2, n + 3, n, n + 1]) (fun d o hb q =>
      hk d o (fun q' => hb (by simp [q'])) (fun q' => hb (by simp [q'])) (fun q' => hb (by simp [q'])) (fun q' => hb (by simp [q'])) q) hf⟩
    rcases hend with q | q
    · exact .inl (f1 (by omega))
    · exact .inr (f2 (by omega))
  self := fun A i s Q E st h => wpAny_pyIter_zip st.1 h
def iZip2m (K : PySem.W.Frag) (ta : TA) : TI := fun σ H R => ta σ H fun vs H1 => ∃ k1 k2 a b xs ys, vs = [.ref a, .ref b] ∧ SqB K H1 k1 a xs ∧ SqB K H1 k2 b ys ∧ R (Itz2 K k1 k2 a b xs ys) H1
section
variable {X : Cx} {e1 e2 : Expr} {ta : TA} {p pos tpos : Pos} {elts : List Expr} {kk : Nat}
theorem pi_zip2m (hg : Gl X "zip") (hm : X.mg "zip" = none) (ha : PA X [e1, e2] ta)
    (hs : starEach [e1, e2] X.env = (false, eval e1 X.env) :: starEach [e2] X.env := by rfl) (hpl : (backTo pos (starEach [e2] X.env)).any (·.1) = false := by rfl) :
    PI X (.Tuple elts kk tpos) (.Call (.Name "zip" p) [e1, e2] [] pos) (iZip2m X.K ta) := by
  refine ⟨fun pins s σ H R I h => ?_⟩
  refine Call_ (ld_blt I hg hm PyProof.Rows.boot_zip (PyProof.Rows.callWith_type1 (thn (ha.run pos pins s σ H _ I h) fun us s1 ⟨vs, H1, I1, r1, q1⟩ => ?_) hs hpl))
  obtain ⟨k1, k2, a, b, xs, ys, ex, g1, g2, q⟩ := q1
  subst ex
  cases r1 with
  | cons r r1 =>
  cases r1 with
  | cons r' r1 =>
  cases r1
  cases r
  cases r'
  obtain ⟨us1, la, b1⟩ := sqb_bg I1 g1
  obtain ⟨us2, lb, b2⟩ := sqb_bg I1 g2
  refine zip_begins2 (begB k1 a us1) (begB k2 b us2) b1 b2 fun h' hz hTI hTO i1 i2 hsz hk => wpAny_pyIter_zip hz ?_
  have I2 : Inv X pins σ H1 { s1 with heap := h' } := I1.kept (t' := s1.toks) hk
  refine ⟨s1.heap.objs.size + 4, [s1.heap.objs.size + 4, s1.heap.objs.size + 2, s1.heap.objs.size + 3, s1.heap.objs.size, s1.heap.objs.size + 1], _, _, H1, rfl, I2, turn_zip2m la lb, ⟨hz, hTI, ⟨_, _, hTO⟩, itB0 i1, itB0 i2⟩, fun d hcm => ?_, q⟩
  have e' : d = s1.heap.objs.size + 4 ∨ d = s1.heap.objs.size + 2 ∨ d = s1.heap.objs.size + 3 ∨ d = s1.heap.objs.size ∨ d = s1.heap.objs.size + 1 := by simpa using hcm
  have hle : s1.heap.objs.size ≤ d := by
    rcases e' with z | z | z | z | z
    · rw [z]; exact Nat.le_add_right _ _
    · rw [z]; exact Nat.le_add_right _ _
    · rw [z]; exact Nat.le_add_right _ _
    · rw [z]; exact Nat.le_refl _
    · rw [z]; exact Nat.le_add_right _ _
  exact I1.fpOk hle (I1.hok.fresh hle)
end
/-- zip of two, each a list or a tuple -/
def zip2F : List D → Option (List D)
  | [d, e] => match seqW d, seqW e with
    | some ds, some es => some (zipD ds es)
    | _, _ => none
  | _ => none
section
variable {g : G} {ρ : Rh} {st : S} {H : Hp}
theorem it_zip2m {k1 k2 : Bool} {a b : Addr} {xs ys : List V} {ds es : List D} (h1 : At3 g ρ st H k1 a xs) (r1 : RpA g (Vol ρ st) H xs ds) (h2 : At3 g ρ st H k2 b ys) (r2 : RpA g (Vol ρ st) H ys es) :
    ItOk g ρ st H (Itz2 g.K k1 k2 a b xs ys) (zipD ds es) := fun A H' k hA i => by
  have s1 := h1.sq k
  have s2 := h2.sq k
  refine ⟨fun d hd => ?_, fun hl => ⟨⟨s1, s2⟩, by rw [r1.1, r2.1]; exact zipD_len ds es i hl⟩⟩
  obtain ⟨u1, u2, e1, e2, rfl⟩ := zipD_get ds es i d hd
  obtain ⟨x, hx, rx⟩ := r1.get e1
  obtain ⟨y, hy, ry⟩ := r2.get e2
  refine ⟨⟨⟨s1, s2⟩, (List.getElem?_eq_some_iff.mp hx).1, (List.getElem?_eq_some_iff.mp hy).1⟩, fun v H'' hv => ?_⟩
  obtain ⟨T, x', y', f1, f2, rfl, hT, rfl⟩ := hv
  rw [hx] at f1
  rw [hy] at f2
  cases Option.some.inj f1
  cases Option.some.inj f2
  refine ⟨.inr ⟨T, _, hT, rfl⟩, ?_⟩
  exact Rp.tup' upd_same (nvolA hA hT) (RpA.cons ((rx.ext k).ext (keepA hT)) (RpA.cons ((ry.ext k).ext (keepA hT)) RpA.nil))
end
section
variable {X : Cx} {g : G} {ER : EK} {e1 e2 : Expr} {ma : MA} {p pos tpos : Pos} {elts : List Expr} {kk : Nat}
theorem pi_mZip2 (hk : X.K = g.K) (hg : Gl X "zip") (hm : X.mg "zip" = none) (ha : PA X [e1, e2] (tMA g ER ma))
    (hs : starEach [e1, e2] X.env = (false, eval e1 X.env) :: starEach [e2] X.env := by rfl) (hpl : (backTo pos (starEach [e2] X.env)).any (·.1) = false := by rfl) :
    PI X (.Tuple elts kk tpos) (.Call (.Name "zip" p) [e1, e2] [] pos) (tMI g ER (miFun zip2F ma)) := by
  refine PIi (pi_zip2m hg hm ha hs hpl) fun σ H R h => ?_
  obtain ⟨ρ, st, s, h⟩ := h
  refine ⟨ρ, st, s, (OutC.bind h).mono fun ds st1 ρ1 H1 _ h1 s1 vs rs => ?_⟩
  cases e1 : zip2F ds with
  | none => rw [e1] at h1; exact h1.elim
  | some es =>
    rw [e1] at h1
    unfold zip2F at e1
    split at e1
    · rename_i d e
      obtain ⟨u, v, rfl, r1, r2⟩ := rs.two
      split at e1
      · rename_i xs ys f1 f2
        cases Option.some.inj e1
        obtain ⟨k1, a, us, rfl, a1, q1⟩ := at3_of r1 f1
        obtain ⟨k2, b, vs, rfl, a2, q2⟩ := at3_of r2 f2
        rw [hk]
        exact ⟨k1, k2, a, b, us, vs, rfl, a1.sq fun _ _ h n => ⟨h, n⟩, a2.sq fun _ _ h n => ⟨h, n⟩, h1 ρ1 H1 Ext.refl s1 _ (it_zip2m a1 q1 a2 q2)⟩
      · cases e1
    · cases e1
end
def mulKD (a b : D) : Option D := match a, b with
  | .int i, .int j => if (smallI i || smallI j) = true then some (.int (i * j)) else none
  | .lst ds, .int k => if 0 ≤ k ∧ k ≤ 1000 ∧ ds.length ≤ 100 then some (.lst (List.replicate k.toNat ds).flatten) else none
  | d, .int k => match tupDs d with
    | some ds => if 2 ≤ k ∧ k ≤ 1000 ∧ ds.length ≤ 100 ∧ ds.isEmpty = false then some (.tup (List.replicate k.toNat ds).flatten) else none
    | none => none
  | _, _ => none
theorem rop_mulK {g : G} : ROp g (rMulU g.K) mulKD := by
  intro ρ σ st H x y dx dy d Q e s rx ry k
  unfold mulKD at e
  split at e
  · rename_i i j
    split at e
    · rename_i hz
      refine .inl ⟨i, j, rx.inv_int, ry.inv_int, ?_, k ρ H _ Ext.refl s (by rw [← Option.some.inj e]; exact .int _)⟩
      rcases Bool.or_eq_true_iff.mp hz with q | q
      · exact .inl (smallI_ok q)
      · exact .inr (smallI_ok q)
    · cases e
  · rename_i ds j
    split at e
    · rename_i hz
      obtain ⟨h1, h2, h3⟩ := hz
      cases Option.some.inj e
      obtain ⟨a, xs, rfl, ha, _, ra⟩ := rx.inv_lst
      refine .inr (.inl ⟨a, j, xs, rfl, ry.inv_int, ha, by omega, by omega, ?_, fresh_lst s (ra.rep _) k⟩)
      rw [ra.1]
      have q : ds.length * j.toNat ≤ 100 * 1000 := Nat.mul_le_mul h3 (by omega)
      exact lim_ok (by omega)
    · cases e
  · rename_i j _ _
    split at e
    · rename_i ds ed
      split at e
      · rename_i hz
        obtain ⟨h1, h2, h3, h4⟩ := hz
        cases Option.some.inj e
        obtain ⟨a, xs, rfl, ha, ra⟩ := tupDs_ok rx ed
        refine .inr (.inr ⟨a, j, xs, rfl, ry.inv_int, ha, fun z => ?_, h1, h2, by rw [ra.1]; omega, fresh_tup s (ra.rep _) k⟩)
        rw [(nil_of ra.1).mp z] at h4
        cases h4
      · cases e
    · cases e
  · cases e
end RE
set_option maxHeartbeats 4000000
namespace RE
open PySem PySem.Spec PyProof.Rows L2
end RE
set_option maxHeartbeats 4000000
namespace RE
open PySem PySem.Spec PyProof.Rows L2
def mStepC (mc : MC) (lo hi stp : MO) : M := fun st => bindO (mc st) fun k st1 => bindO (lo st1) fun l st2 => bindO (hi st2) fun u st3 => bindO (stp st3) fun c st4 => if c = some 0 then .no else match st4.ce[k]? with
  | some (.l ds) => .ok (.lst (stepIx ds l u c)) st4
  | _ => .no
section
variable {X : Cx} {g : G} {ER : EK} {e : Expr} {pos p2 : Pos}
theorem pe_mStepC {lo hi stp : Option Expr} {mc : MC} {ml mh ms : MO} (hk : X.K = g.K) (he : PE X e (tC g ER mc)) (hl : PO X lo (tMO g ER ml)) (hh : PO X hi (tMO g ER mh)) (hs : PO X stp (tMO g ER ms))
    (hop : ∀ a b : Addr, subscripted (.Slice lo hi stp p2) false (.ref a) (.ref b) = operate [.ref a, .ref b] (getItem (.ref a) (.ref b)) := by intro _ _; with_unfolding_all rfl) : PE X (.Subscript e (.Slice lo hi stp p2) pos) (tM g ER (mStepC mc ml mh ms)) := by
  refine PEi (pe_step he hl hh hs hop) fun σ H Q h => ?_
  obtain ⟨ρ, st, s, h⟩ := h
  refine ⟨ρ, st, s, (OutC.bind h).mono fun k st1 ρ1 H1 _ h1 s1 a ha => ?_⟩
  refine ⟨ρ1, st1, s1, (OutC.bind h1).mono fun l st2 ρ2 H2 x2 h2 s2 => ?_⟩
  refine ⟨ρ2, st2, s2, (OutC.bind h2).mono fun u st3 ρ3 H3 x3 h3 s3 => ?_⟩
  refine ⟨ρ3, st3, s3, (OutC.bind h3).mono fun c st4 ρ4 H4 x4 h4 s4 => ?_⟩
  by_cases hc : c = some 0
  · rw [if_pos hc] at h4; exact h4.elim
  rw [if_neg hc] at h4
  have ha4 := x4.pre k a (x3.pre k a (x2.pre k a ha))
  rw [hk]
  cases e1 : st4.ce[k]? with
  | none => simp only [e1] at h4; exact h4.elim
  | some ce =>
    cases ce with
    | l ds =>
      simp only [e1] at h4
      obtain ⟨xs, q1, q2⟩ := s4.cell k _ a e1 ha4
      have ri : RpA g (Vol ρ4 st4) H4 (stepIx xs l u c) (stepIx ds l u c) := by
        unfold stepIx
        rw [q2.1]
        exact RpA.pick q2 _
      exact ⟨hc, a, xs, rfl, SqL.of q1, fresh_lst s4 ri fun ρ' H' v x s' r => h4 ρ' H' x s' v r⟩
    | _ => simp only [e1] at h4; exact h4.elim
def mStepB (i : Nat) (lo hi stp : MO) : M := fun st => match st.cellOf i with
  | some _ => mStepC (cName i) lo hi stp st
  | none => mStep (mVarF i) lo hi stp st
theorem tM_either {m n : M} {c : S → Bool} {σ : L2.St} {H : Hp} {Q : VK} (h : tM g ER (fun st => if c st = true then m st else n st) σ H Q) : tM g ER m σ H Q ∨ tM g ER n σ H Q := by
  obtain ⟨ρ, st, s, h⟩ := h
  have h : OutC ER ρ st H (if c st = true then m st else n st) fun d st' ρ' H' => Sim g ρ' σ H' st' → ∀ v, Rp g (Vol ρ' st') H' v d → Q v H' := h
  by_cases z : c st = true
  · rw [if_pos z] at h; exact .inl ⟨ρ, st, s, h⟩
  · rw [if_neg z] at h; exact .inr ⟨ρ, st, s, h⟩
theorem pe_mStepB {x : Str} {p : Pos} {i : Nat} {lo hi stp : Option Expr} {ml mh ms : MO} (hk : X.K = g.K) (hx : PE X (.Name x p) (tVar i)) (hl : PO X lo (tMO g ER ml)) (hh : PO X hi (tMO g ER mh)) (hs : PO X stp (tMO g ER ms))
    (hop : ∀ a b : Addr, subscripted (.Slice lo hi stp p2) false (.ref a) (.ref b) = operate [.ref a, .ref b] (getItem (.ref a) (.ref b)) := by intro _ _; with_unfolding_all rfl) : PE X (.Subscript (.Name x p) (.Slice lo hi stp p2) pos) (tM g ER (mStepB i ml mh ms)) := by
  refine PEi (PE.or (pe_mStepC (ER := ER) hk (pe_cName hx) hl hh hs hop) (pe_mStep hk (pe_mVarF hx) hl hh hs hop)) fun σ H Q h => ?_
  refine tM_either (c := fun st => (st.cellOf i).isSome) ?_
  obtain ⟨ρ, st, s, h⟩ := h
  refine ⟨ρ, st, s, ?_⟩
  unfold mStepB at h
  cases e : st.cellOf i with
  | none => simp only [e] at h; simp only [e]; exact h
  | some k => simp only [e] at h; simp only [e]; exact h
def mLenB (i : Nat) : M := fun st => match st.cellOf i with
  | some _ => mLenC (cName i) st
  | none => mFun lenD (mCons (mVarF i) mNil) st
theorem pe_mLenB {x : Str} {p p0 : Pos} {i : Nat} (hk : X.K = g.K) (hg : Gl X "len") (hm : X.mg "len" = none) (hx : PE X (.Name x p) (tVar i))
    (hb : PE X (.Call (.Name "len" p0) [.Name x p] [] pos) (tM g ER (mFun lenD (mCons (mVarF i) mNil))))
    (hs : starEach [.Name x p] X.env = (false, eval (.Name x p) X.env) :: starEach [] X.env := by rfl) (hpl : (backTo pos (starEach ([] : List Expr) X.env)).any (·.1) = false := by rfl) :
    PE X (.Call (.Name "len" p0) [.Name x p] [] pos) (tM g ER (mLenB i)) := by
  refine PEi (PE.or (pe_mLenC (ER := ER) hk hg hm (pe_cName hx) hs hpl) hb) fun σ H Q h => ?_
  refine tM_either (c := fun st => (st.cellOf i).isSome) ?_
  obtain ⟨ρ, st, s, h⟩ := h
  refine ⟨ρ, st, s, ?_⟩
  unfold mLenB at h
  cases e : st.cellOf i with
  | none => simp only [e] at h; simp only [e]; exact h
  | some k => simp only [e] at h; simp only [e]; exact h
end
end RE
set_option maxHeartbeats 4000000
namespace RE
open PySem PySem.Spec PyProof.Rows L2
end RE
set_option maxHeartbeats 4000000
namespace RE
open PySem PySem.Spec PyProof.Rows L2
end RE
set_option maxHeartbeats 4000000
namespace RE
open PySem PySem.Spec PyProof.Rows L2
end RE
set_option maxHeartbeats 4000000
namespace RE
open PySem PySem.Spec PyProof.Rows L2
end RE
set_option maxHeartbeats 4000000
namespace RE
open PySem PySem.Spec PyProof.Rows L2
end RE
set_option maxHeartbeats 4000000
namespace RE
open PySem PySem.Spec PyProof.Rows L2
end RE
set_option maxHeartbeats 4000000
namespace RE
open PySem PySem.Spec PyProof.Rows L2
/-- an expression that makes a new object: it and what it says of it -/
def tN (g : G) (ER : EK) (i : Nat) (m : S → O Ce) : TE := fun σ H Q => ∃ ρ st, Sim g ρ σ H st ∧ (match m st with
  | .ok c st' => ∀ (q : Addr) (ρ2 : Rh) (H2 : Hp), (c.flat && c.alive) = true → Ext ρ st H (ρ2.addC q) (st'.addC i c) H2 → Sim g (ρ2.addC q) (σ.set i (some (.ref q))) H2 (st'.addC i c) → (ρ2.addC q).ad[st'.ce.length]? = some q → Q (.ref q) H2
  | .er c vs st' => ∀ ρ' H', Ext ρ st H ρ' st' H' → ER c vs ρ' st' H'
  | .no => False)
theorem adC {ρ : Rh} {st : S} {q : Addr} (h : ρ.ad.length = st.ce.length) : (ρ.addC q).ad[st.ce.length]? = some q := by
  show (ρ.ad ++ [q])[st.ce.length]? = _
  rw [List.getElem?_append_right (by rw [h]; exact Nat.le_refl _), h, Nat.sub_self]; rfl
end RE
set_option maxHeartbeats 4000000
namespace RE
open PySem PySem.Spec PyProof.Rows L2
def mNewD (m : S → O Ce) : M := fun st => bindO (m st) fun c st2 => if st2.sl.length ≤ 1000 then (match c.dat with
  | some d => .ok d ((st2.addC 1000 c).frz st2.ce.length d)
  | none => .no) else .no
theorem pe_mNewD {X : Cx} {g : G} {ER : EK} {e : Expr} {m : S → O Ce} (he : PE X e (tN g ER 1000 m)) : PE X e (tM g ER (mNewD m)) := by
  refine PEi he fun σ H Q h => ?_
  obtain ⟨ρ, st, s, h⟩ := h
  refine ⟨ρ, st, s, ?_⟩
  cases em : m st with
  | no => simp only [mNewD, bindO, em] at h <;> exact h.elim
  | er c vs st' => simp only [mNewD, bindO, em] at h; exact h
  | ok c st1 =>
  simp only [mNewD, bindO, em] at h
  intro q ρ1 H2 fl x2 s2 ha
  have h1 := h
  by_cases hl : st1.sl.length ≤ 1000
  case neg => rw [if_neg hl] at h1; exact h1.elim
  rw [if_pos hl] at h1
  have el : σ.length = st1.sl.length := by
    have := s2.len
    rw [List.length_set] at this
    rw [this]
    show (st1.sl.set 1000 _).length = _
    rw [List.length_set]
  have es : σ.set 1000 (some (.ref q)) = σ := List.set_eq_of_length_le (by rw [el]; exact hl)
  rw [es] at s2
  have hk : (st1.addC 1000 c).ce[st1.ce.length]? = some c := by
    show (st1.ce ++ [c])[st1.ce.length]? = _
    rw [List.getElem?_append_right (Nat.le_refl _), Nat.sub_self]; rfl
  cases e3 : c.dat with
  | none => simp only [e3] at h1; exact h1.elim
  | some d =>
    simp only [e3] at h1
    exact h1 _ _ (x2.trans Ext.frz) (s2.frz hk e3) _ (frz_rp s2 hk e3 ha)
end RE
set_option maxHeartbeats 4000000
namespace RE
open PySem PySem.Spec PyProof.Rows L2
end RE
set_option maxHeartbeats 4000000
namespace RE
open PySem PySem.Spec PyProof.Rows L2
def Pd (H : Hp) (xs : List V) (L : List (List Key × V)) : Prop := Paired (fun (x : V) (p : List Key × V) => ∃ t c, x = V.ref t ∧ H t = some (.tup [.ref c, p.2]) ∧ H c = some (.tup (p.1.map kV))) xs L
section
variable {X : Cx} {pq : List (Addr × Obj)} {σ : L2.St} {H : Hp} {s : Shared}
theorem Pd.vals (I : Inv X pq σ H s) : ∀ {xs : List V} {L : List (List Key × V)} {us : List Value}, Pd H xs L → Vals xs us →
    ∃ (ts : List Addr) (ps : List (List Key × Addr × Value)), L2.KT H L ps ∧ ts.length = ps.length ∧ us = ts.map Value.ref ∧ ∀ (j : Nat) t q, ts[j]? = some t → ps[j]? = some q → s.heap.IsTuple t #[.ref q.2.1, q.2.2] := by
  intro xs L us h
  induction h generalizing us with
  | nil => intro r; cases r; exact ⟨[], [], .nil, rfl, rfl, fun j t q e => by simp at e⟩
  | @cons x p _ _ hd tl ih =>
    intro r
    obtain ⟨t, c, rfl, ht, hc⟩ := hd
    cases r with
    | @cons _ u _ us r1 t1 =>
      obtain rfl : u = Value.ref t := r1
      obtain ⟨ts, ps, k1, k2, k3, k4⟩ := ih t1
      obtain ⟨its, rv, pt, _⟩ := I.tuple (.inl (.inl ht))
      cases rv with
      | @cons _ a _ as ra rb =>
        cases rb with
        | @cons _ b _ bs rb rc =>
          cases rc
          obtain rfl : a = Value.ref c := ra
          refine ⟨t :: ts, (p.1, c, b) :: ps, .cons ⟨rfl, hc, rb⟩ k1, by simp [k2], by rw [k3]; rfl, fun j t' q e1 e2 => ?_⟩
          cases j with
          | zero =>
            cases Option.some.inj e1
            cases Option.some.inj e2
            exact pt
          | succ j => exact k4 j t' q (by simpa using e1) (by simpa using e2)
end
def rPairs (K : PySem.W.Frag) : List V → Hp → VK → Prop := fun vs H Q => ∃ (a : Addr) (xs : List V) (L : List (List Key × V)), vs = [V.ref a] ∧ SqL K H a xs ∧ Pd H xs L ∧ ∀ p, H p = none → Q (.ref p) (upd H p (.dT (putAll [] L)))
theorem cr_pairs {X : Cx} (hu : X.A.units + 64 < cLine) (calm : X.calm = true) : CallR X (.type "dict") (rPairs X.K) := by
  intro pins s σ H vs us Q I r h
  obtain ⟨a, xs, L, rfl, hs, hp, q⟩ := h
  obtain rfl := Vals.ref1 r
  obtain ⟨its, rv, pl, hz⟩ := I.list hs
  obtain ⟨ts, ps, k1, k2, k3, k4⟩ := hp.vals I rv
  have hit : its.toArray.size = (ps.map fun p => (Value.ref p.2.1, p.2.2)).length := by rw [List.size_toArray, k3, List.length_map, List.length_map, k2]
  have fresh : H s.heap.objs.size = none := I.hok.fresh (Nat.le_refl _)
  have ok : PlainSeq "list" s.heap a its.toArray ∧ PairItems s.heap its.toArray (fun j => ts.getD j 0) (ps.map fun p => (Value.ref p.2.1, p.2.2)) := by
    refine ⟨?_, hit, fun j k v e => ?_⟩
    · exact pl
    · rw [List.getElem?_map] at e
      obtain ⟨p, hp2, e⟩ := Option.map_eq_some_iff.mp e
      cases e
      have lt : j < ts.length := by rw [k2]; exact (List.getElem?_eq_some_iff.mp hp2).1
      have et : ts[j]? = some ts[j] := List.getElem?_eq_getElem lt
      have eg : ts.getD j 0 = ts[j] := by rw [List.getD_eq_getElem?_getD, et]; rfl
      show its.toArray[j]? = some (.ref (ts.getD j 0)) ∧ PairAt s.heap (ts.getD j 0) _ _
      rw [eg]
      refine ⟨?_, .inl (k4 j _ p et hp2)⟩
      rw [k3]
      simp [et]
  have lsz : ps.length ≤ sizeLine := by
    have : its.length = ps.length := by rw [k3, List.length_map, k2]
    have e2 := rv.length
    omega
  refine call_dict_pairsH (knd := tupleKind (mixKind X.prog X.w)) (ps := ps) (PairArg.list a its.toArray (fun j => ts.getD j 0) (ps.map fun p => (Value.ref p.2.1, p.2.2))) (I.ok.hd calm) (by show X.A.units + 1 + 1 < cLine; omega) ok ?_ ?_ (by rw [List.length_map]; exact lsz) fun h' tk dh kp => ?_
  · refine ⟨by rw [List.length_map], fun i k v e => ?_⟩
    have e : (ps.map fun p => (Value.ref p.2.1, p.2.2))[i]? = some (k, v) := e
    rw [List.getElem?_map] at e
    obtain ⟨p, hp2, e⟩ := Option.map_eq_some_iff.mp e
    cases e
    exact ⟨p.1, p.2.1, hp2, rfl⟩
  · intro g hk x hx
    have all : ∀ {L : List (List Key × V)} {ps : List (List Key × Addr × Value)}, L2.KT H L ps → ∀ x ∈ ps, (tupleKind (mixKind X.prog X.w)).is g x.1 x.2.1 := by
      intro L ps k
      induction k with
      | nil => intro x hx; cases hx
      | @cons p y _ _ h t ih =>
        intro x hx
        rcases List.mem_cons.mp hx with rfl | m
        · obtain ⟨_, its2, r2, o, e1, e2, n, e3⟩ := (show ObjOk X.prog X.w H s.heap _ (.tup (p.1.map kV)) from I.hok _ _ h.2.1)
          have lt : x.2.1 < s.heap.objs.size := Heap.lt_size e1
          refine ⟨o, its2.toArray, n, hk _ _ (Nat.ne_of_lt lt) (by simp) e1, e2, e3, ?_⟩
          rw [← h.1]
          simpa using items_are r2
        · exact ih x m
    exact all k1 x hx
  · have nm : (s.heap.objs.size == sysModules) = false := beq_eq_false_iff_ne.mpr (Nat.ne_of_gt I.big)
    have len : (putAll [] L).length ≤ sizeLine := by
      have e1 := putAll_len L []
      have e2 : L.length = ps.length := Paired.length k1
      rw [List.length_nil] at e1
      omega
    have kt := putAll_kt (acc := []) (xs := []) .nil k1
    obtain ⟨o, es, ep, q1, q2, q3, q4, _, q5⟩ := dh
    refine ⟨.ref _, upd H s.heap.objs.size (.dT (putAll [] L)), I.laid (t' := tk) (fun c o e => kp c o (by simp) e) (Nat.le_refl _) ⟨len, nm, _, kt.keeps fun c vs e => ?_, o, es, ep, q1, q2, q3, q4, q5⟩, rfl, q _ fresh⟩
    rw [upd_ne (ne_of_none e fresh)]
    exact e
def pairsOf : List D → Option (List (List Key × D))
  | [] => some []
  | .tup [k, v] :: ds => match keysD k, pairsOf ds with
    | some kk, some r => some ((kk, v) :: r)
    | _, _ => none
  | _ :: _ => none
theorem pd_of {g : G} {A : Addr → Prop} {H : Hp} : ∀ {ds : List D} {M : List (List Key × D)} {xs : List V}, RpA g A H xs ds → pairsOf ds = some M →
    ∃ L : List (List Key × V), Pd H xs L ∧ L.map (·.1) = M.map (·.1) ∧ RpA g A H (L.map (·.2)) (M.map (·.2)) := by
  intro ds
  induction ds with
  | nil =>
    intro M xs r e
    cases Option.some.inj e
    rw [r.cases_nil]
    exact ⟨[], .nil, rfl, RpA.nil⟩
  | cons d ds ih =>
    intro M xs r e
    obtain ⟨x, xs, rfl, r1, r2⟩ := r.cases_cons
    unfold pairsOf at e
    split at e
    · rename_i heq; cases heq
    · rename_i k v ds' heq
      cases heq
      cases e1 : keysD k with
      | none => simp only [e1] at e; cases e
      | some kk =>
        cases e2 : pairsOf ds with
        | none => simp only [e1, e2] at e; cases e
        | some R =>
          simp only [e1, e2] at e
          cases Option.some.inj e
          obtain ⟨L, h1, h2, h3⟩ := ih r2 e2
          obtain ⟨t, ys, rfl, ht, _, rt⟩ := r1.inv_tup
          obtain ⟨u, w, rfl, ru, rw'⟩ := rt.two
          obtain ⟨b, rfl, hb⟩ := keysD_ok ru e1
          exact ⟨(kk, w) :: L, .cons ⟨t, b, rfl, ht, hb⟩ h1, by rw [List.map_cons, List.map_cons, h2], RpA.cons rw' h3⟩
    · cases e
end RE
set_option maxHeartbeats 4000000
namespace RE
open PySem PySem.Spec PyProof.Rows L2
end RE
set_option maxHeartbeats 4000000
namespace RE
open PySem PySem.Spec PyProof.Rows L2
end RE
set_option maxHeartbeats 4000000
namespace RE
open PySem PySem.Spec PyProof.Rows L2
end RE
set_option maxHeartbeats 4000000
namespace RE
open PySem PySem.Spec PyProof.Rows L2
end RE
set_option maxHeartbeats 2000000
namespace RE
open PySem PySem.Spec PyProof.Rows L2
end RE
set_option maxHeartbeats 4000000
namespace RE
open PySem PySem.Spec PyProof.Rows L2
end RE
set_option maxHeartbeats 4000000
namespace RE
open PySem PySem.Spec PyProof.Rows L2
end RE
namespace RE
open PySem PySem.Spec PyProof.Rows L2
end RE
set_option maxHeartbeats 4000000
namespace RE
open PySem PySem.Spec PyProof.Rows L2
/-- the frame of a law whose source of draws is kept in the second slot -/
abbrev tinS (ns : List Int) (n : Nat) (a b t : Int) : S := ⟨.d (.ks (ns.map .int)) :: .rf 0 :: List.replicate n .no, [.l [.int a, .int b, .int t]]⟩
theorem tin_at (seed : Int) (ns : List Int) (hl : ns.length ≤ 63) (n : Nat) : ∃ a b, (mSetF 1 (fCall boxM (boxF seed) 3 (mCons (mCall cellsM 6 [] (mCons (mVarF 0) (mCons (mC (.int 1)) mNil))) (mCons (mC (.int 0)) mNil)))) (S.start [.d (.ks (ns.map .int))] (n + 2) []) = .nx (tinS ns n a b 0) := by
  obtain ⟨c, e1⟩ := cells_call ns hl (S.start [.d (.ks (ns.map .int))] (n + 2) [])
  obtain ⟨a, b, e2⟩ := box_call seed c (S.start [.d (.ks (ns.map .int))] (n + 2) [])
  refine ⟨a, b, ?_⟩
  have q1 : (mCall cellsM 6 [] (mCons (mVarF 0) (mCons (mC (.int 1)) mNil))) (S.start [.d (.ks (ns.map .int))] (n + 2) []) = .ok (.lst [.int c]) (S.start [.d (.ks (ns.map .int))] (n + 2) []) := e1
  have q2 : (fCall boxM (boxF seed) 3 (mCons (mCall cellsM 6 [] (mCons (mVarF 0) (mCons (mC (.int 1)) mNil))) (mCons (mC (.int 0)) mNil))) (S.start [.d (.ks (ns.map .int))] (n + 2) []) = .ok [.int a, .int b, .int 0] (S.start [.d (.ks (ns.map .int))] (n + 2) []) := by
    unfold fCall
    rw [cons_at q1 (show (mCons (mC (.int 0)) mNil) (S.start [.d (.ks (ns.map .int))] (n + 2) []) = .ok [.int 0] _ from rfl)]
    exact e2
  unfold mSetF bindS
  rw [q2]
  rfl
theorem ret_true {m : M} {st st1 : S} (h : m st = .ok (.bl true) st1) : trueS (mRet m st) = true := by
  rw [ret_at h]
  rfl
/-- A always, then R with the source -/
theorem law_tin {A R : MS} {a n : Nat} {seed : Int} (hA : trueS (A (S.start [] a [])) = true) (hR : ∀ (ns : List Int) (x y : Int), trueS (R (tinS ns n x y 0)) = true) (ns : List Int) (hl : ns.length ≤ 63) :
    trueS ((mSeq (mIf (mNotT (mTru (mCall A a [] mNil))) (mRet (mC (.bl false))) mSkip)
      (mSeq (mSetF 1 (fCall boxM (boxF seed) 3 (mCons (mCall cellsM 6 [] (mCons (mVarF 0) (mCons (mC (.int 1)) mNil))) (mCons (mC (.int 0)) mNil)))) R)) (S.start [.d (.ks (ns.map .int))] (n + 2) [])) = true := by
  have e0 : (mNotT (mTru (mCall A a [] mNil))) (S.start [.d (.ks (ns.map .int))] (n + 2) []) = .ok false (S.start [.d (.ks (ns.map .int))] (n + 2) []) := not_at (tru_at (call0_at hA _) rfl)
  obtain ⟨x, y, e1⟩ := tin_at seed ns hl n
  rw [seq_at (if_n e0), seq_at e1]
  exact hR ns x y
end RE
set_option maxHeartbeats 4000000
namespace RE
open PySem PySem.Spec PyProof.Rows L2
section
variable {P : Program} {w : World} {A : Around} {E : Value → Shared → Prop} {s : Shared}
/-- a member: a tuple without texts, not deep -/
structure MbOk (h : Heap) (k : NestedKey) (a : Addr) : Prop where
  is : NestedIs h k (.ref a)
  dp : k.depth ≤ 8
  nt : noTxt k = true
theorem MbOk.keep {h h' : Heap} {k : NestedKey} {a : Addr} (m : MbOk h k a) (hk : ∀ b o vs n, h.get? b = some o → o.data = .seq vs n → h'.get? b = some o) : MbOk h' k a := ⟨m.is.at hk, m.dp, m.nt⟩
end
end RE
set_option maxHeartbeats 4000000
namespace RE
open PySem PySem.Spec PyProof.Rows L2
/-- how an item of ours names its tuple, its key -/
structure Vw (α : Type) where
  a : α → Addr
  k : α → NestedKey
section
variable {α : Type} {W : Vw α} {P : Program} {w : World} {A : Around} {E : Value → Shared → Prop} {s : Shared}
abbrev hsN (W : Vw α) (w : World) (x : α) : Int := (W.k x).hash w
def rowsN (W : Vw α) (w : World) (L : List α) : List (Int × Value) := L.map fun x => (hsN W w x, Value.ref (W.a x))
structure SetN (W : Vw α) (w : World) (h : Heap) (a : Addr) (L : List α) (es : Array (Int × Value)) (ep : Nat) (t : SetTable) : Prop where
  obj : ∃ o, h.get? a = some o ∧ o.ExactSet ∧ o.data = .set es ep t
  ent : es.toList = rowsN W w L
  tb : TabOk t (L.map (hsN W w))
  un : (L.map W.k).Nodup
  mb : ∀ x ∈ L, MbOk h (W.k x) (W.a x)
  pl : t.plain = true
  ld : w.params.followText "set-order" = true ∨ t.led = true
  lo : L.length * 5 < t.mask * 3
  lim : L.length < 64
variable {a : Addr} {L : List α} {es : Array (Int × Value)} {ep : Nat} {t : SetTable}
theorem rowsN_len {es : Array (Int × Value)} {L : List α} (e : es.toList = rowsN W w L) : es.size = L.length := by
  rw [← Array.length_toList, e]
  exact List.length_map _
theorem SetN.len (S : SetN W w s.heap a L es ep t) : es.size = L.length := rowsN_len S.ent
theorem SetN.row (S : SetN W w s.heap a L es ep t) {i : Nat} {x : α} (h : L[i]? = some x) : es[i]? = some (hsN W w x, Value.ref (W.a x)) := by
  rw [← Array.getElem?_toList, S.ent]
  show (L.map _)[i]? = _
  rw [List.getElem?_map, h]
  rfl
abbrev beg (m : Nat) (h : Int) : SetTable.Probe := runAt m (SetTable.bits h % (m + 1)) (SetTable.bits h)
end
end RE
set_option maxHeartbeats 4000000
namespace RE
open PySem PySem.Spec PyProof.Rows L2
end RE
set_option maxHeartbeats 4000000
namespace RE
open PySem PySem.Spec PyProof.Rows L2
section
variable {α : Type} (W : Vw α)
/-- the first of each key -/
def ddS (acc : List α) (x : α) : List α := if W.k x ∈ acc.map W.k then acc else acc ++ [x]
def dd (l : List α) : List α := l.foldl (ddS W) []
variable {W}
end
section
variable {α : Type} {W : Vw α} {P : Program} {w : World} {A : Around} {E : Value → Shared → Prop} {s : Shared}
theorem SetN.kept {h h' : Heap} {a : Addr} {L : List α} {es : Array (Int × Value)} {ep : Nat} {t : SetTable} (S : SetN W w h a L es ep t) (ha : ∀ o, h.get? a = some o → h'.get? a = some o) (hm : ∀ x ∈ L, MbOk h' (W.k x) (W.a x)) : SetN W w h' a L es ep t := by
  obtain ⟨o, ho, q⟩ := S.obj
  exact ⟨⟨o, ha o ho, q⟩, S.ent, S.tb, S.un, hm, S.pl, S.ld, S.lo, S.lim⟩
end
end RE
set_option maxHeartbeats 4000000
namespace RE
open PySem PySem.Spec PyProof.Rows L2
end RE
namespace RE
open PySem PySem.Spec PyProof.Rows L2
end RE
set_option maxHeartbeats 4000000
namespace RE
open PySem PySem.Spec PyProof.Rows L2
def putNx (xs : List (NestedKey × Addr × V)) (k : NestedKey) (b : Addr) (v : V) : List (NestedKey × Addr × V) := if (xs.any fun x => decide (x.1 = k)) = true then xs.map (fun x => if x.1 = k then (x.1, x.2.1, v) else x) else xs ++ [(k, b, v)]
def putND (ds : List (D × D)) (kd : D) (k : NestedKey) (d : D) : List (D × D) := if (valNd ds k).isSome = true then ds.map (fun e => if nkD e.1 = some k then (e.1, d) else e) else ds ++ [(kd, d)]
theorem any_val {k : NestedKey} : ∀ {xs : List (NestedKey × Addr × V)} {ds : List (D × D)}, xs.map (fun x => some x.1) = ds.map (fun d => nkD d.1) → (xs.any fun x => decide (x.1 = k)) = (valNd ds k).isSome
  | [], [], _ => rfl
  | [], _ :: _, e => by simp at e
  | _ :: _, [], e => by simp at e
  | (kx, b, x) :: xs, (kd, d) :: ds, e => by
    simp only [List.map_cons, List.cons.injEq] at e
    obtain ⟨e1, e2⟩ := e
    by_cases h : kx = k
    · have : nkD kd = some k := by rw [← e1, h]
      simp [valNd, h, this]
    · have : ¬ nkD kd = some k := fun z => h (Option.some.inj (e1.trans z))
      simpa [valNd, h, this] using any_val (k := k) e2
section
variable {g : G} {A : Addr → Prop} {H : Hp}
theorem putNd_ok {xs : List (NestedKey × Addr × V)} {ds : List (D × D)} {kd d : D} {k : NestedKey} {b : Addr} {v : V} (e : xs.map (fun x => some x.1) = ds.map (fun d => nkD d.1)) (rk : RpA g A H (xs.map fun x => V.ref x.2.1) (ds.map (·.1))) (rd : RpA g A H (xs.map (·.2.2)) (ds.map (·.2)))
    (ek : nkD kd = some k) (ru : Rp g A H (.ref b) kd) (rv : Rp g A H v d) : (putNx xs k b v).map (fun x => some x.1) = (putND ds kd k d).map (fun d => nkD d.1) ∧ RpA g A H ((putNx xs k b v).map fun x => V.ref x.2.1) ((putND ds kd k d).map (·.1)) ∧ RpA g A H ((putNx xs k b v).map (·.2.2)) ((putND ds kd k d).map (·.2)) := by
  unfold putNx putND
  rw [any_val e]
  split
  · have go : ∀ {xs : List (NestedKey × Addr × V)} {ds : List (D × D)}, xs.map (fun x => some x.1) = ds.map (fun d => nkD d.1) → RpA g A H (xs.map fun x => V.ref x.2.1) (ds.map (·.1)) → RpA g A H (xs.map (·.2.2)) (ds.map (·.2)) →
        (xs.map fun x => if x.1 = k then (x.1, x.2.1, v) else x).map (fun x => some x.1) = (ds.map fun e => if nkD e.1 = some k then (e.1, d) else e).map (fun d => nkD d.1) ∧ RpA g A H ((xs.map fun x => if x.1 = k then (x.1, x.2.1, v) else x).map fun x => V.ref x.2.1) ((ds.map fun e => if nkD e.1 = some k then (e.1, d) else e).map (·.1)) ∧
          RpA g A H ((xs.map fun x => if x.1 = k then (x.1, x.2.1, v) else x).map (·.2.2)) ((ds.map fun e => if nkD e.1 = some k then (e.1, d) else e).map (·.2)) := by
      intro xs
      induction xs with
      | nil =>
        intro ds e _ _
        cases ds with
        | nil => exact ⟨rfl, RpA.nil, RpA.nil⟩
        | cons _ _ => simp at e
      | cons x xs ih =>
        intro ds e rk rd
        cases ds with
        | nil => simp at e
        | cons y ds =>
          simp only [List.map_cons, List.cons.injEq] at e
          obtain ⟨e1, e2⟩ := e
          obtain ⟨q1, q2, q3⟩ := ih e2 rk.uncons.2 rd.uncons.2
          simp only [List.map_cons]
          by_cases c : x.1 = k
          · have c' : nkD y.1 = some k := by rw [← e1, c]
            rw [if_pos c, if_pos c']
            exact ⟨by rw [q1, e1], RpA.cons rk.uncons.1 q2, RpA.cons rv q3⟩
          · have c' : ¬ nkD y.1 = some k := fun z => c (Option.some.inj (e1.trans z))
            rw [if_neg c, if_neg c']
            exact ⟨by rw [q1, e1], RpA.cons rk.uncons.1 q2, RpA.cons rd.uncons.1 q3⟩
    exact go e rk rd
  · simp only [List.map_append]
    refine ⟨?_, rk.append (RpA.cons ru RpA.nil), rd.append (RpA.cons rv RpA.nil)⟩
    rw [e]
    show _ ++ [some k] = _ ++ [nkD kd]
    rw [ek]
end
end RE
set_option maxHeartbeats 4000000
namespace RE
open PySem PySem.Spec PyProof.Rows L2
structure GrowN (g : G) (ρ0 : Rh) (st0 : S) (H0 : Hp) (σ : L2.St) (p : Addr) (ρ : Rh) (ce : List Ce) (H : Hp) (acc : List (NestedKey × Addr × V)) (ds : List (D × D)) : Prop where
  ext : Ext ρ0 st0 H0 (ρ.lev ρ0.U) (st0.with ce) H
  u : ρ.U = (ρ0.ent p).U
  sim : Sim g ρ σ H (st0.with ce)
  at' : H p = some (NdO p acc)
  ks : acc.map (fun x => some x.1) = ds.map (fun d => nkD d.1)
  rk : RpA g (Vol ρ (st0.with ce)) H (acc.map fun x => V.ref x.2.1) (ds.map (·.1))
  rp : RpA g (Vol ρ (st0.with ce)) H (acc.map (·.2.2)) (ds.map (·.2))
section
variable {g : G} {ER : EK} {ρ0 ρ ρ' : Rh} {st0 st' : S} {H0 H H' : Hp} {σ σ' : L2.St} {p : Addr} {ce : List Ce} {acc : List (NestedKey × Addr × V)} {ds : List (D × D)}
theorem ndo_nt (p : Addr) (xs : List (NestedKey × Addr × V)) : NT (NdO p xs) := fun _ z => by cases z
theorem GrowN.zero (s : Sim g ρ0 σ H0 st0) (hp : H0 p = none) : GrowN g ρ0 st0 H0 σ p (ρ0.ent p) st0.ce (upd H0 p (NdO p [])) [] [] where
  ext := Ext.zero hp s.uo
  u := rfl
  sim := s.ent hp (ndo_nt _ _)
  at' := upd_same
  ks := rfl
  rk := RpA.nil
  rp := RpA.nil
theorem GrowN.go (G : GrowN g ρ0 st0 H0 σ p ρ ce H acc ds) (h0 : H0 p = none) {stw : S} (hw : stw.ce = ce) (e : Ext ρ stw H ρ' st' H') (c : Cells g ρ' H' st') : GrowN g ρ0 st0 H0 σ p ρ' st'.ce H' acc ds where
  ext := Ext.step_lev G.ext G.u h0 (e.with hw)
  u := e.same.trans G.u
  sim := G.sim.back (e.with hw) c
  at' := by rw [e.un p (by rw [G.u]; exact .inr rfl)]; exact G.at'
  ks := G.ks
  rk := G.rk.go (e.with hw)
  rp := G.rp.go (e.with hw)
theorem GrowN.push (G : GrowN g ρ0 st0 H0 σ p ρ ce H acc ds) (h0 : H0 p = none) (su : ∀ a, ρ0.U a → ∃ u, H0 a = some u) {k : NestedKey} {kd : D} {b : Addr} {v : V} {d : D} (ek : nkD kd = some k) (ru : Rp g (Vol ρ (st0.with ce)) H (.ref b) kd) (r : Rp g (Vol ρ (st0.with ce)) H v d) :
    GrowN g ρ0 st0 H0 σ p ρ ce (upd H p (NdO p (putNx acc k b v))) (putNx acc k b v) (putND ds kd k d) := by
  obtain ⟨p1, p2, p3⟩ := putNd_ok (b := b) (v := v) G.ks G.rk G.rp ek ru r
  have up : ρ.U p := by rw [G.u]; exact .inr rfl
  exact ⟨Ext.touch G.ext h0 su, G.u, G.sim.touch up (ndo_nt _ _), upd_same, p1, p2.ext (keep_touch up), p3.ext (keep_touch up)⟩
theorem GrowN.kp (Gr : GrowN g ρ0 st0 H0 σ p ρ ce H acc ds) (hp : H0 p = none) : ∀ a o, H0 a = some o → ¬ Vol ρ0 st0 a → H a = some o ∧ ¬ Vol ρ (st0.with ce) a := fun a o h n => by
  obtain ⟨h1, n1⟩ := Gr.ext.keep a o h n
  refine ⟨h1, fun v => ?_⟩
  rcases v with v | v
  · rw [Gr.u] at v
    rcases v with v | v
    · exact n1 (.inl v)
    · rw [v, hp] at h; cases h
  · exact n1 (.inr v)
theorem GrowN.cell {i : Nat} {c : Ce} (Gr : GrowN g ρ0 st0 H0 σ p ρ ce H acc ds) (h0 : H0 p = none) (su : ∀ a, ρ0.U a → ∃ u, H0 a = some u)
    (hc : ∀ (A : Addr → Prop) (ad : List Addr), (∀ a o, H a = some o → ¬ Vol ρ (st0.with ce) a → H a = some o ∧ ¬ A a) → CeOk g A ad H p c) :
    Ext ρ0 st0 H0 ((ρ.lev ρ0.U).addC p) ((st0.with ce).addC i c) H ∧ Sim g ((ρ.lev ρ0.U).addC p) (σ.set i (some (.ref p))) H ((st0.with ce).addC i c) := by
  have hU : ∀ a, ρ0.U a → ρ.U a := fun a h => by rw [Gr.u]; exact .inl h
  have up : ρ.U p := by rw [Gr.u]; exact .inr rfl
  have s := Gr.sim
  have cl : (ρ.lev ρ0.U).ad.length = (st0.with ce).ce.length := s.clen
  have sub : ∀ b, Vol ((ρ.lev ρ0.U).addC p) ((st0.with ce).addC i c) b → Vol ρ (st0.with ce) b := fun b v => by
    rcases vol_addC cl v with v | v
    · exact vol_lev hU v
    · rw [v]; exact .inl up
  have kp : ∀ a o, H a = some o → ¬ Vol ρ (st0.with ce) a → H a = some o ∧ ¬ Vol ((ρ.lev ρ0.U).addC p) ((st0.with ce).addC i c) a := fun a o h n => ⟨h, fun v => n (sub a v)⟩
  have pre : ∀ (k : Nat) b, ρ.ad[k]? = some b → (ρ.ad ++ [p])[k]? = some b := fun k b h => by
    obtain ⟨hk, _⟩ := List.getElem?_eq_some_iff.mp h
    rw [List.getElem?_append_left hk]; exact h
  have part : ∀ (m : Nat) (c3 : Ce) (b : Addr), ((st0.with ce).ce ++ [c])[m]? = some c3 → (ρ.ad ++ [p])[m]? = some b → ((st0.with ce).ce[m]? = some c3 ∧ ρ.ad[m]? = some b) ∨ (m = (st0.with ce).ce.length ∧ b = p ∧ c3 = c) := fun m c3 b q1 q2 => by
    by_cases hj : m < (st0.with ce).ce.length
    · rw [List.getElem?_append_left hj] at q1
      rw [List.getElem?_append_left (by rw [s.clen]; exact hj)] at q2
      exact .inl ⟨q1, q2⟩
    · rw [List.getElem?_append_right (by omega)] at q1
      rw [List.getElem?_append_right (by rw [s.clen]; omega), s.clen] at q2
      cases e : m - (st0.with ce).ce.length with
      | zero => rw [e] at q1 q2; exact .inr ⟨by omega, (Option.some.inj q2).symm, (Option.some.inj q1).symm⟩
      | succ n => rw [e] at q1; simp at q1
  refine ⟨⟨fun a o h n => ?_, fun k b h => ?_, rfl, Gr.ext.un, fun a v => ?_, Gr.ext.mono⟩, ⟨⟨fun a h => s.uok a (hU a h), ?_, fun j c' b h1 h2 => ?_, fun j l c1 c2 b h1 h2 a1 a2 e1 e2 => ?_, fun j c' b h1 ha h2 v => ?_⟩, ?_, fun j sl v h1 h2 => ?_⟩⟩
  · obtain ⟨q1, q2⟩ := Gr.ext.keep a o h n
    refine ⟨q1, fun v => ?_⟩
    rcases vol_addC cl v with v | v
    · exact q2 v
    · rw [v, h0] at h; cases h
  · exact pre k b (Gr.ext.pre k b h)
  · rcases vol_addC cl v with v | v
    · exact Gr.ext.more a v
    · right; rw [v]; exact h0
  · show (ρ.ad ++ [p]).length = ((st0.with ce).ce ++ [c]).length
    rw [List.length_append, List.length_append, s.clen]; rfl
  · rcases part j c' b h1 h2 with ⟨q1, q2⟩ | ⟨_, q2, q3⟩
    · exact (s.cell j c' b q1 q2).ext rfl kp pre
    · rw [q2, q3]; exact hc _ _ kp
  · rcases part j c1 b h1 e1 with ⟨q1, q2⟩ | ⟨q1, q2, _⟩
    · rcases part l c2 b h2 e2 with ⟨r1, r2⟩ | ⟨_, r2, _⟩
      · exact s.inj j l c1 c2 b q1 r1 a1 a2 q2 r2
      · rw [r2] at q2; exact absurd up (s.out j c1 p q1 a1 q2)
    · rcases part l c2 b h2 e2 with ⟨r1, r2⟩ | ⟨r1, _, _⟩
      · rw [q2] at r2; exact absurd up (s.out l c2 p r1 a2 r2)
      · rw [q1, r1]
  · rcases part j c' b h1 h2 with ⟨q1, q2⟩ | ⟨_, q2, _⟩
    · exact s.out j c' b q1 ha q2 (hU b v)
    · obtain ⟨u, hu⟩ := su b v
      rw [q2, h0] at hu; cases hu
  · show (σ.set i _).length = ((st0.with ce).sl.set i _).length
    rw [List.length_set, List.length_set]; exact s.len
  · have h1 : ((st0.with ce).sl.set i (.rf (st0.with ce).ce.length))[j]? = some sl := h1
    rw [List.getElem?_set] at h1 h2
    by_cases e : i = j
    · rw [if_pos e] at h1 h2
      split at h1
      · split at h2
        · cases Option.some.inj h1
          cases Option.some.inj h2
          refine ⟨p, rfl, ?_⟩
          show (ρ.ad ++ [p])[(st0.with ce).ce.length]? = _
          rw [List.getElem?_append_right (by rw [s.clen]; exact Nat.le_refl _), s.clen, Nat.sub_self]; rfl
        · cases h2
      · cases h1
    · rw [if_neg e] at h1 h2
      exact (s.slot j sl v h1 h2).ext kp pre
end
end RE
set_option maxHeartbeats 4000000
namespace RE
open PySem PySem.Spec PyProof.Rows L2
end RE
set_option maxHeartbeats 4000000
namespace RE
open PySem PySem.Spec PyProof.Rows L2
section
variable {prog : Program} {w : World} {A : Around} {E : Value → Shared → Prop} {s : Shared} {z TI TO i1 i2 l1 l2 d : Addr} {xs ys : Array Value}
/-- pairs that were made: at Ts, of the first items -/
def Made (b : Nat) (h : Heap) (xs ys : Array Value) (Ts : List Addr) : Prop := Ts.Nodup ∧ ∀ (j : Nat) T, Ts[j]? = some T → b ≤ T ∧ ∃ x y, xs[j]? = some x ∧ ys[j]? = some y ∧ IsPair h T x y
theorem Made.go {b : Nat} {h h' : Heap} {Ts : List Addr} (m : Made b h xs ys Ts) (k : ∀ c o, b ≤ c → h.get? c = some o → h'.get? c = some o) : Made b h' xs ys Ts :=
  ⟨m.1, fun j T e => by obtain ⟨q, x, y, e1, e2, p⟩ := m.2 j T e; exact ⟨q, x, y, e1, e2, k _ _ q p⟩⟩
end
end RE
set_option maxHeartbeats 4000000
namespace RE
open PySem PySem.Spec PyProof.Rows L2
end RE
namespace RE
open PySem PySem.Spec PyProof.Rows L2
end RE
set_option maxHeartbeats 4000000
namespace RE
open PySem PySem.Spec PyProof.Rows L2
/-- its making, over what begins -/
theorem enum_new {v : Value} {o : Obj} {hv : Heap → Prop} (B : Begins v o hv) : Meets (Builtin.«enumerate.__new__» ⟨[.type "enumerate", v], []⟩) (fun _ R s => hv s.heap ∧ R (.ok (.ret (.ref (s.heap.push o).objs.size))) { s with heap := (s.heap.push o).push { cls := .type "enumerate", data := .fields #[.none, .bool false, .ref s.heap.objs.size, rawInt 0, .none, .none] } }) :=
  .of_wp fun P w A R t hq => by
    obtain ⟨m, gn, dr, k, x⟩ := t
    have sb := sub_enumerate
    have go : ∀ {A' : Around} {F : Value → Shared → Prop} {S : Value → Shared → Prop}, S (.ref m.objs.size) ⟨m.push o, gn, dr, k, x⟩ → wpAny (model P w) A' (pyIter v) S F ⟨m, gn, dr, k, x⟩ := fun y => B.iter P w _ _ ⟨m, gn, dr, k, x⟩ _ hq.1 y
    wp_walk using go
    refine wpAny_stack_any fun _ => wpAny_pure ?_
    split
    · rename_i c _ _ _ _ _
      cases c == Value.type "enumerate" <;> (wp_walk using go; exact ⟨_, rfl, hq.2⟩)
    · wp_walk using go
      exact ⟨_, rfl, hq.2⟩
section
variable {P : Program} {w : World} {A : Around} {E : Value → Shared → Prop} {s : Shared} {k : Bool} {a n i : Nat} {us : List Value}
theorem enum_made {Q : Value → Shared → Prop} (b : BgH k a us s.heap) (hQ : ∀ h', IsEnum h' (s.heap.objs.size + 1) s.heap.objs.size 0 .none → ItB h' k s.heap.objs.size a 0 → (∀ c u, s.heap.get? c = some u → h'.get? c = some u) → Q (.ref (s.heap.objs.size + 1)) { s with heap := h' }) :
    wpAny (model P w) A (call (.type "enumerate") [.ref a]) Q E s := by
  have B := begB k a us
  have z1 : (s.heap.push (oB k a)).objs.size = s.heap.objs.size + 1 := Heap.size_push ..
  have q2 : ((s.heap.push (oB k a)).push { cls := .type "enumerate", data := .fields #[.none, .bool false, .ref s.heap.objs.size, rawInt 0, .none, .none] }).get? (s.heap.push (oB k a)).objs.size = some _ := Heap.get?_push_size _ rfl
  have q1 : ((s.heap.push (oB k a)).push { cls := .type "enumerate", data := .fields #[.none, .bool false, .ref s.heap.objs.size, rawInt 0, .none, .none] }).get? s.heap.objs.size = some (oB k a) := Heap.get?_push_of_some _ (Heap.get?_push_size _ B.free)
  rw [z1] at q2
  refine callType_new F.called_enumerate (by decide) (F.typeCall_enumerate_1 _) (F.newCall_enumerate_1 _) (fun y => F.args_object_init_2 y _) F.entry_enumerate_new (enum_new B) ⟨b, ?_⟩
  show _ ∧ _
  rw [z1]
  exact ⟨⟨_, q2, rfl⟩, hQ _ q2 (itB0 q1) fun c u e => Heap.get?_push_of_some _ (Heap.get?_push_of_some _ e)⟩
/-- the iterator is the kind's own, as what it walks is -/
theorem sqIt_kind {h h' : Heap} {j : Nat} (b : BgH k a us h) (same : ∀ o, h.get? a = some o → h'.get? a = some o) (x : SqIt h' n a j us.toArray) : ItB h' k n a j := by
  cases k with
  | true =>
    rcases x with x | ⟨_, o, e, c, _⟩
    · exact x.1
    · obtain ⟨o', e', c', _⟩ := (show h.IsList a us.toArray from b)
      rw [same _ e'] at e
      cases Option.some.inj e
      rw [c'] at c
      simp at c
  | false =>
    rcases x with ⟨_, o, e, c, _⟩ | x
    · obtain ⟨o', e', c', _⟩ := (show h.IsTuple a us.toArray from b)
      rw [same _ e'] at e
      cases Option.some.inj e
      rw [c'] at c
      simp at c
    · exact x.1
end
/-- the list or tuple at a, each item in a new pair -/
def Ieb (K : PySem.W.Frag) (k : Bool) (a : Addr) (xs : List V) : It where
  go i H := SqB K H k a xs ∧ i < xs.length
  yld i H v H' := ∃ T x, xs[i]? = some x ∧ v = .ref T ∧ H T = none ∧ H' = upd H T (.tup [.int (i : Nat), x])
  stop i H := SqB K H k a xs ∧ xs.length ≤ i
theorem turn_eb {P : Program} {w : World} {K : PySem.W.Frag} {elts : List Expr} {kk : Nat} {tpos : Pos} {k : Bool} {a n : Nat} {xs : List V} (la : a < n) :
    Turn P w K (.Tuple elts kk tpos) (Ieb K k a xs) [n + 1, n] (n + 1) (fun i h => (∃ old, IsEnum h (n + 1) n ((i : Nat) : Int) old) ∧ ItB h k n a i) where
  mem := by simp
  obj := fun i h st d hd => by
    rcases (show d = n + 1 ∨ d = n by simpa using hd) with rfl | rfl
    · exact ⟨_, st.1.choose_spec, fun v q => nomatch q⟩
    · exact st.2.ob
  keep := fun i h h' st kp => ⟨⟨_, kp _ (by simp) _ st.1.choose_spec⟩, st.2.at fun o q => kp n (by simp) o q⟩
  self := fun A i s Q E st h => wpAny_pyIter_enum st.1.choose_spec h
  done := by
    intro X hP hw hK hc i pq s σ H E I fok st g
    subst hP hw hK
    obtain ⟨⟨old, he⟩, t⟩ := st
    obtain ⟨us, r, _, b, q⟩ := sqb_it I g.1 t
    have calm : X.A.in1.handled = none := I.ok.hd hc
    have m := r.length
    have full := g.2
    obtain ⟨c0, c1, c2, c3, c4, c5⟩ := fok n (by simp)
    exact wpAny_pyNext_enum_endD (endDraws calm (by simp; omega)) he ⟨rfl, q⟩ fun h' eb => ⟨rfl, I.turned (t' := s.toks) (fun c o hb z => eb c o hb z) c0 c1 c3 c4 c5⟩
  item := by
    intro X hP hw hK hc i pq s σ H E I fok st g
    subst hP hw hK
    obtain ⟨⟨old, he⟩, t⟩ := st
    obtain ⟨us, r, lt, b, q⟩ := sqb_it I g.1 t
    have calm : X.A.in1.handled = none := I.ok.hd hc
    have m := r.length
    have lx := g.2
    have le : n + 1 < s.heap.objs.size := Heap.lt_size he
    have off : (n + 1 : Addr) ∉ [n, a] := by simp [(ane la 1).2]
    refine wpAny_pyNext_enum_itemD (sqDraws calm (ane la 0).1) he q (by rw [List.size_toArray]; omega) (by simp) off fun u h1 tk eu out q1 pair big kp => ?_
    have ex : xs[i]? = some xs[i] := List.getElem?_eq_getElem lx
    obtain ⟨u', eu', ru⟩ := r.get ex
    have eu : us[i]? = some u := by simpa using eu
    rw [eu'] at eu
    cases Option.some.inj eu
    refine ⟨_, rfl, wpAny_letOwnedTupleGo_enum (s := { s with heap := h1, toks := tk + 1 }) out fun h2 he2 sb => ?_⟩
    have to2 : ∀ c : Addr, c ≠ n + 1 → ∀ o, h1.get? c = some o → h2.get? c = some o := fun c nc o z => (sb.2 c nc).trans z
    have pair2 := to2 _ (Nat.ne_of_gt le) _ pair
    have all : ∀ c o, c ∉ [n + 1, n] → s.heap.get? c = some o → h2.get? c = some o := fun c o nc z => by
      simp only [List.mem_cons, List.not_mem_nil, or_false, not_or] at nc
      exact to2 c nc.1 o (kp c o nc.1 nc.2 z)
    have laid : ObjOk X.prog X.w (upd H s.heap.objs.size (.tup [.int (i : Nat), xs[i]])) h2 s.heap.objs.size (.tup [.int (i : Nat), xs[i]]) := ⟨by show 2 ≤ sizeLine; decide, _, .cons ⟨_, rfl⟩ (.cons ru .nil), _, pair2, rfl, _, rfl⟩
    refine ⟨.ref s.heap.objs.size, _, I.turnedNew (t' := tk + 1) (ch := [n + 1, n]) all fok (Nat.le_refl _) laid, rfl, ⟨_, _, ex, rfl, I.hok.fresh (Nat.le_refl _), rfl⟩, ⟨⟨u, ?_⟩, ?_⟩, fun d hd => ?_⟩
    · rw [show ((i + 1 : Nat) : Int) = (i : Int) + 1 by omega]
      exact he2
    · exact (sqIt_kind b (fun o z => kp a o (ane la 1).1 (ane la 0).1 z) q1).at fun o z => to2 n (by simp) o z
    · have ld : d < s.heap.objs.size := by
        rcases (show d = n + 1 ∨ d = n by simpa using hd) with rfl | rfl
        · exact le
        · exact Nat.lt_of_succ_lt le
      rw [upd_ne (Nat.ne_of_lt ld)]
      exact (fok d hd).1
def iEnumA (K : PySem.W.Frag) (ta : TA) : TI := fun σ H R => ta σ H fun vs H1 => ∃ k a xs, vs = [.ref a] ∧ SqB K H1 k a xs ∧ R (Ieb K k a xs) H1
theorem pi_enumA {X : Cx} {e : Expr} {ta : TA} {p pos tpos : Pos} {elts : List Expr} {kk : Nat} (hg : Gl X "enumerate") (hm : X.mg "enumerate" = none) (ha : PA X [e] ta) (hs : starEach [e] X.env = [(false, eval e X.env)] := by rfl) :
    PI X (.Tuple elts kk tpos) (.Call (.Name "enumerate" p) [e] [] pos) (iEnumA X.K ta) := ⟨fun pq s σ H R I h =>
  Call_ (ld_blt I hg hm boot_enumerate (PyProof.Rows.callWith_type1 (thn (ha.run pos pq s σ H _ I h) fun us s1 ⟨vs, H1, I1, r1, k, a, xs, ex, sq, q⟩ => by
    subst ex
    obtain rfl := Vals.ref1 r1
    obtain ⟨zs, la, b⟩ := sqb_bg I1 sq
    refine enum_made b fun h' he it kp => wpAny_pyIter_enum he ⟨_, [s1.heap.objs.size + 1, s1.heap.objs.size], _, _, H1, rfl, I1.kept (t' := s1.toks) kp, turn_eb la, ⟨⟨.none, he⟩, it⟩, fun d hd => ?_, q⟩
    have far : s1.heap.objs.size ≤ d := by
      rcases (show d = s1.heap.objs.size + 1 ∨ d = s1.heap.objs.size by simpa using hd) with rfl | rfl
      · exact Nat.le_succ _
      · exact Nat.le_refl _
    exact I1.fpOk far (I1.hok.fresh far)) hs rfl))⟩
theorem it_eb {g : G} {ρ : Rh} {st : S} {H : Hp} {k : Bool} {a : Addr} {xs : List V} {ds : List D} (stay : ∀ (A : Addr → Prop) (H' : Hp), (∀ c o, H c = some o → ¬ Vol ρ st c → H' c = some o ∧ ¬ A c) → SqB g.K H' k a xs) (r : RpA g (Vol ρ st) H xs ds) : ItOk g ρ st H (Ieb g.K k a xs) (enumFrom 0 ds) := fun A H' kp hA i => by
  refine ⟨fun d hd => ?_, fun z => ⟨stay A H' kp, by rw [enumFrom_len] at z; rw [r.1]; exact z⟩⟩
  obtain ⟨d1, e1, rfl⟩ := enumFrom_get ds 0 i d hd
  obtain ⟨x, ex, rx⟩ := r.get e1
  refine ⟨⟨stay A H' kp, (List.getElem?_eq_some_iff.mp ex).1⟩, fun y H2 hy => ?_⟩
  obtain ⟨T, x', ex', rfl, free, rfl⟩ := hy
  rw [ex] at ex'
  cases Option.some.inj ex'
  refine ⟨.inr ⟨T, _, free, rfl⟩, ?_⟩
  have two := RpA.cons (Rp.int (g := g) (A := A) (H := upd H' T (.tup [.int (i : Nat), x])) (i : Nat)) (RpA.cons ((rx.ext kp).ext (keepA free)) RpA.nil)
  simpa using Rp.tup' upd_same (nvolA hA free) two
section
variable {X : Cx} {g : G} {ER : EK} {p pos : Pos} {ma : MA}
def enumAF : List D → Option (List D)
  | [d] => match seqW d with
    | some ds => some (enumFrom 0 ds)
    | none => none
  | _ => none
theorem pi_mEnumA {a : Expr} {elts : List Expr} {kk : Nat} {tpos : Pos} (hk : X.K = g.K) (hg : Gl X "enumerate") (hm : X.mg "enumerate" = none) (ha : PA X [a] (tMA g ER ma)) (hs : starEach [a] X.env = [(false, eval a X.env)] := by rfl) : PI X (.Tuple elts kk tpos) (.Call (.Name "enumerate" p) [a] [] pos) (tMI g ER (miFun enumAF ma)) := by
  refine PIi (pi_enumA hg hm ha hs) fun σ H R h => ?_
  obtain ⟨ρ, st, s, h⟩ := h
  refine ⟨ρ, st, s, (OutC.bind h).mono fun ds st1 ρ1 H1 _ h1 s1 vs rs => ?_⟩
  cases e1 : enumAF ds with
  | none => rw [e1] at h1; exact h1.elim
  | some es =>
    rw [e1] at h1
    unfold enumAF at e1
    split at e1
    · rename_i d
      obtain ⟨v, rfl, r⟩ := rs.one
      cases f1 : seqW d with
      | none => simp only [f1] at e1; cases e1
      | some zs =>
        simp only [f1] at e1
        cases Option.some.inj e1
        rw [hk]
        cases hd : isL d with
        | true =>
          cases d with
          | lst d1 =>
            cases Option.some.inj (seqW_ok f1)
            obtain ⟨a, xs, rfl, ha, na, ra⟩ := r.inv_lst
            exact ⟨true, a, xs, rfl, SqL.of ha, h1 ρ1 H1 Ext.refl s1 _ (it_eb (fun A H' kp => SqL.of (kp a _ ha na).1) ra)⟩
          | _ => cases hd
        | false =>
          obtain ⟨a, xs, rfl, ha, ra⟩ := r.seqT f1 hd
          have stay : ∀ (A : Addr → Prop) (H' : Hp), (∀ c o, H1 c = some o → ¬ Vol ρ1 st1 c → H' c = some o ∧ ¬ A c) → SqT g.K H' a xs := fun A H' kp => by
            rcases ha with ⟨h, n⟩ | h
            · exact SqT.of (kp a _ h n).1
            · exact (h.ext kp).sq
          exact ⟨false, a, xs, rfl, stay (Vol ρ1 st1) H1 fun c o e n => ⟨e, n⟩, h1 ρ1 H1 Ext.refl s1 _ (it_eb stay ra)⟩
    · cases e1
end
end RE
set_option maxHeartbeats 4000000
namespace RE
open PySem PySem.Spec PyProof.Rows L2
end RE
set_option maxHeartbeats 4000000
namespace RE
open PySem PySem.Spec PyProof.Rows L2
end RE
set_option maxHeartbeats 4000000
namespace RE
open PySem PySem.Spec PyProof.Rows L2
end RE
set_option maxHeartbeats 4000000
namespace RE
open PySem PySem.Spec PyProof.Rows L2
end RE
set_option maxHeartbeats 4000000
namespace RE
open PySem PySem.Spec PyProof.Rows L2
end RE
set_option maxHeartbeats 4000000
namespace RE
open PySem PySem.Spec PyProof.Rows L2
end RE
set_option maxHeartbeats 4000000
namespace RE
open PySem PySem.Spec PyProof.Rows L2
end RE
set_option maxHeartbeats 4000000
namespace RE
open PySem PySem.Spec PyProof.Rows L2
end RE
set_option maxHeartbeats 4000000
namespace RE
open PySem PySem.Spec PyProof.Rows L2
end RE
set_option maxHeartbeats 4000000
namespace RE
open PySem PySem.Spec PyProof.Rows L2
/-- items: data, new cells -/
abbrev MX := S → O (List Sl)
def tMX (g : G) (ER : EK) (m : MX) : TA := fun σ H Q => ∃ ρ st, Sim g ρ σ H st ∧ OutC ER ρ st H (m st) fun ss st' ρ' H' => Sim g ρ' σ H' st' → ∀ vs, SlA g (Vol ρ' st') ρ'.ad H' vs ss → Q vs H'
def xNil : MX := fun st => .ok [] st
def xDat (m : M) (r : MX) : MX := fun st => bindO (m st) fun d st1 => bindO (r st1) fun ss st2 => .ok (.d d :: ss) st2
def xNew (c : Ce) (r : MX) : MX := fun st => bindO (r (st.addC st.sl.length c)) fun ss st2 => .ok (.rf st.ce.length :: ss) st2
def putsX : List Nat → List Sl → S → Option S
  | [], [], st => some st
  | i :: is, s :: ss, st => putsX is ss (st.put i s)
  | _, _, _ => none
theorem putsX_len : ∀ {is : List Nat} {ss : List Sl} {st st' : S}, putsX is ss st = some st' → ss.length = is.length
  | [], [], _, _, _ => rfl
  | _ :: is, _ :: ss, st, st', h => congrArg (· + 1) (putsX_len (is := is) (ss := ss) h)
  | [], _ :: _, _, _, h => by cases h
  | _ :: _, [], _, _, h => by cases h
section
variable {X : Cx} {g : G} {ER : EK} {pos : Pos}
theorem px_nil : PA X [] (tMX g ER xNil) := PAi pa_nil fun σ H Q ⟨ρ, st, s, h⟩ => h ρ H Ext.refl s [] SlA.nil
theorem px_dat {e : Expr} {es : List Expr} {m : M} {r : MX} (ha : PE X e (tM g ER m)) (hr : PA X es (tMX g ER r)) (hs : starEach (e :: es) X.env = (false, eval e X.env) :: starEach es X.env := by rfl) : PA X (e :: es) (tMX g ER (xDat m r)) := by
  refine PAi (pa_cons ha hr hs) fun σ H Q ⟨ρ, st, s, h⟩ => ⟨ρ, st, s, (OutC.bind h).mono fun d st1 ρ1 H1 _ h1 s1 x rx => ?_⟩
  exact ⟨ρ1, st1, s1, (OutC.bind h1).mono fun ss st2 ρ2 H2 e2 h2 s2 vs rs => h2 ρ2 H2 Ext.refl s2 (x :: vs) (SlA.cons (s := .d d) (rx.go e2) rs)⟩
theorem px_new {e : Expr} {es : List Expr} {o0 : HO} {c0 : Ce} {r : MX} (nc : NewC o0 c0) (ha : PE X e (tNew o0)) (hr : PA X es (tMX g ER r)) (hs : starEach (e :: es) X.env = (false, eval e X.env) :: starEach es X.env := by rfl) : PA X (e :: es) (tMX g ER (xNew c0 r)) := by
  refine PAi (pa_cons ha hr hs) fun σ H Q ⟨ρ, st, s, h⟩ p hp => ?_
  have s1 := s.addC (i := st.sl.length) (c := c0) (o := o0) hp (nc.ok _ _ _ _ _ upd_same)
  have e0 : σ.set st.sl.length (some (.ref p)) = σ := List.set_eq_of_length_le (by rw [s.len]; exact Nat.le_refl _)
  rw [e0] at s1
  refine ⟨ρ.addC p, st.addC st.sl.length c0, s1, (OutC.bind (OutC.later h (Ext.addC s hp))).mono fun ss st2 ρ2 H2 e2 h2 s2 vs rs => ?_⟩
  refine h2 ρ2 H2 Ext.refl s2 (.ref p :: vs) (SlA.cons (s := .rf st.ce.length) ⟨p, rfl, e2.pre _ _ ?_⟩ rs)
  show (ρ.ad ++ [p])[st.ce.length]? = some p
  rw [← s.clen, List.getElem?_append_right (Nat.le_refl _), Nat.sub_self]
  rfl
theorem slok_of {A : Addr → Prop} {ρ : Rh} {H : Hp} {v : V} {s : Sl} (h : SlV g A ρ.ad H v s) : SlOk g A ρ H (some v) s := by
  cases s with
  | no => exact h.elim
  | d x => exact ⟨v, rfl, h⟩
  | rf k => obtain ⟨b, rfl, q⟩ := h; exact ⟨b, rfl, q⟩
theorem gok_namesX : ∀ (is : List Nat) (ρ : Rh) (σ : L2.St) (H : Hp) (st : S) (xs : List V) (ss : List Sl) (st' : S) (Q : L2.St → Hp → Prop), putsX is ss st = some st' → Sim g ρ σ H st → SlA g (Vol ρ st) ρ.ad H xs ss →
    (∀ σ', Sim g ρ σ' H st' → st'.ce = st.ce → Q σ' H) → gNames is xs σ H Q
  | [], ρ, σ, H, st, [], [], st', Q, e, s, r, k => by cases Option.some.inj e; exact ⟨rfl, k σ s rfl⟩
  | [], ρ, σ, H, st, _ :: _, [], st', Q, e, s, r, k => by have := r.1; simp at this
  | [], ρ, σ, H, st, _, _ :: _, st', Q, e, s, r, k => by cases e
  | _ :: _, ρ, σ, H, st, _, [], st', Q, e, s, r, k => by cases e
  | _ :: _, ρ, σ, H, st, [], _ :: _, st', Q, e, s, r, k => by have := r.1; simp at this
  | i :: is, ρ, σ, H, st, x :: xs, sl :: ss, st', Q, e, s, r, k => by
    obtain ⟨r1, r2⟩ := SlA.uncons r
    refine ⟨x, xs, rfl, ?_⟩
    have s1 := s.put i (slok_of r1)
    exact gok_namesX is ρ _ H _ xs ss st' Q e s1 (SlA.go r2 (fun a o h n => ⟨h, n⟩) fun _ _ h => h) fun σ' s' ce => k σ' s' ce
def mToX (is : List Nat) (ma : MX) : MS := fun st => bindS (ma st) fun ss st1 => match putsX is ss st1 with
  | some st2 => if ss.length ≤ 1000 then .nx st2 else .no
  | none => .no
/-- a, b, .. = x, y, .. where a pair is made -/
theorem ps_mToX {tg : Expr} {es : List Expr} {x1} {p2 : Pos} {is : List Nat} {ma : MX} (ha : PA X es (tMX g ER ma)) (hg : PG X tg (gTup g.K is.length (gNames is))) (hs : swapsWithSole [tg] (.Tuple es x1 p2) pos.line X.env = pure false := by rfl) (hw : swappedStores [tg] (.Tuple es x1 p2) X.env = pure none := by rfl)
    (h1 : (assignEach [tg] X.env).map (·.2) = [assign tg X.env] := by rfl) : PS X (.Assign [tg] (.Tuple es x1 p2) pos) (tMS g ER (mToX is ma)) := by
  refine PSi (ps_asg (pe_tup ha) hg hs hw h1) fun E σ H ⟨ρ, st, s, h⟩ => ⟨ρ, st, s, (OutS.bind h).mono fun ss st1 ρ1 H1 _ h1 s1 vs rs => ?_⟩
  cases e1 : putsX is ss st1 with
  | none => simp only [e1] at h1; exact h1.elim
  | some st2 =>
    simp only [e1] at h1
    split at h1
    case isFalse => exact h1.elim
    rename_i hz
    refine ⟨by rw [rs.1]; exact Nat.le_of_lt (small1000 hz), fun p hp => ?_⟩
    refine ⟨p, vs, rfl, SqT.of upd_same, by rw [rs.1]; exact putsX_len e1, ?_⟩
    refine gok_namesX is ρ1 σ _ st1 vs ss st2 _ e1 (s1.new hp) (SlA.go rs (Ext.new s1 hp).keep fun _ _ h => h) fun σ' s' ce => h1 ρ1 σ' _ ((Ext.new s1 hp).trans (Ext.refl.ce ce)) s'
def mParX (is : List Nat) (ma : MX) : MS := fun st => bindS (ma st) fun ss st1 => match putsX is ss st1 with
  | some st2 => .nx st2
  | none => .no
/-- a, b = x, y -/
theorem ps_mParX {i j : Nat} {x y : Str} {a b : Expr} {ma : MX} {px py pt : Pos} {kt k2 pt2} (hc : X.calm = true) (hN : X.N.Nodup) (hi : X.N[i]? = some x) (hj : X.N[j]? = some y) (hij : i ≠ j)
    (hx : X.env.scope.names.lookup x = some .local) (hy : X.env.scope.names.lookup y = some .local) (ha : PA X [a, b] (tMX g ER ma)) (hw : swappedStores [.Tuple [.Name x px, .Name y py] kt pt] (.Tuple [a, b] k2 pt2) X.env = pure (some [x, y])) (hs : swapsWithSole [.Tuple [.Name x px, .Name y py] kt pt] (.Tuple [a, b] k2 pt2) pos.line X.env = pure false := by rfl) :
    PS X (.Assign [.Tuple [.Name x px, .Name y py] kt pt] (.Tuple [a, b] k2 pt2) pos) (tMS g ER (mParX [i, j] ma)) := by
  refine PSi (ps_par hc hN hi hj hij hx hy ha hw hs) fun E σ H ⟨ρ, st, s, h⟩ => ⟨ρ, st, s, (OutS.bind h).mono fun ss st1 ρ1 H1 _ h1 s1 vs rs => ?_⟩
  match ss, vs, rs, h1 with
  | [], _, _, h1 => exact h1.elim
  | [_], _, _, h1 => exact h1.elim
  | [d, e], [], rs, h1 => have := rs.1; simp at this
  | [d, e], [_], rs, h1 => have := rs.1; simp at this
  | [d, e], _ :: _ :: _ :: _, rs, h1 => have := rs.1; simp at this
  | [d, e], [v, u], rs, h1 =>
    obtain ⟨r1, r2⟩ := SlA.uncons rs
    obtain ⟨r2, _⟩ := SlA.uncons r2
    have s2 := s1.put i (slok_of r1)
    have s3 := s2.put j (v := u) (sl := e) (slok_of (SlA.uncons (SlA.go (SlA.cons r2 SlA.nil) (A' := Vol ρ1 (st1.put i d)) (H' := H1) (fun a o h n => ⟨h, n⟩) fun _ _ h => h)).1)
    exact ⟨v, u, rfl, h1 ρ1 _ H1 (Ext.refl.ce rfl) s3⟩
  | _ :: _ :: _ :: _, _, _, h1 => exact h1.elim
end
end RE
set_option maxHeartbeats 4000000
namespace RE
open PySem PySem.Spec PyProof.Rows L2
end RE
set_option maxHeartbeats 4000000
namespace RE
open PySem PySem.Spec PyProof.Rows L2
end RE
set_option maxHeartbeats 4000000
namespace RE
open PySem PySem.Spec PyProof.Rows L2
end RE
set_option maxHeartbeats 4000000
namespace RE
open PySem PySem.Spec PyProof.Rows L2
/-- an own error's class -/
def ecB (K : PySem.W.Frag) (C : Addr) (bm : List Value) (newId : String) : Bool := match K.lookup C with
  | some ⟨.type t, _, .cls cd, sl⟩ => (decide (t = "type") && (cd.hasDict && !cd.hasDel)) && (decide (cd.mro = .ref C :: bm) && match sl.toList with
    | [_, _, _, _, some (.builtin n), _] => decide (n = newId)
    | _ => false)
  | _ => false
theorem ecB_ok {K : PySem.W.Frag} {C : Addr} {bm : List Value} {newId : String} (h : ecB K C bm newId = true) : ∃ nm q N bs sn sub ab col dd k0 k1 k2 k3 k5, K.lookup C = some (excClassObj nm q C N bs bm true sn sub ab col dd k0 k1 k2 k3 k5 newId) := by
  unfold ecB at h
  split at h
  case h_2 => cases h
  rename_i t dd cd sl e
  obtain ⟨h1, h2⟩ := He.ba h
  obtain ⟨h3, h4⟩ := He.ba h1
  obtain ⟨h5, h6⟩ := He.ba h4
  obtain ⟨h7, h8⟩ := He.ba h2
  split at h8
  case h_2 => cases h8
  rename_i k0 k1 k2 k3 n k5 es
  obtain rfl := of_decide_eq_true h3
  obtain rfl := of_decide_eq_true h8
  replace h7 := of_decide_eq_true h7
  clear h h1 h2 h3 h4 h8
  obtain ⟨nm, bs, mro, ns, q, hd, sn, sub, ab, col, del⟩ := cd
  obtain ⟨l⟩ := sl
  dsimp only at h5 h6 h7 es
  subst h5
  subst h7
  subst es
  cases del with
  | true => cases h6
  | false => exact ⟨nm, q, ns, bs, sn, sub, ab, col, dd, k0, k1, k2, k3, k5, e⟩
/-- facts beside the house's -/
inductive Fx where
  | a (f : He.Fa) | err (x : Str) (bm : List Value) (newId : String) (fs : List Str) | con (x : Str) (d : D) | vb (B i : String) | kit (x : Str) (T : String)
def Fx.ok (K : PySem.W.Frag) : Fx → Bool
  | .a f => f.ok K
  | .err x bm n fs => ecB K (He.ga K x) bm n && (He.eqO (PySem.W.findIn K (.ref (He.ga K x)) "__init__") (some (some (.ref (He.ma K (He.ga K x) "__init__")))) && errB K (He.ga K x) (He.ma K (He.ga K x) "__init__") fs)
  | .con x d => He.eqO (PySem.W.nsIn K mainGlobals x) (some (some (.ref (He.ga K x)))) && ktV K 3 (.ref (He.ga K x)) d
  | .vb B i => match PySem.W.findCls K (.type B) (.type "type") "__init__" with
    | some (.val (.builtin n)) => decide (n = i)
    | _ => false
  | .kit x T => decide (PySem.W.kitOne K (.ref (He.ga K x)) (.type T) = some true)
abbrev AlX : Type := Bool × List He.FnW
def obsX (fx : List Fx) (fn : List He.DefD) (K : PySem.W.Frag) : AlX := ((fx.all fun f => f.ok K) && fn.all fun d => d.ok K, fn.map fun d => He.fnW K d.at_)
def valX (fn : List He.DefD) : AlX := (true, fn.map He.DefD.val)
def SaysX (fx : List Fx) (fn : List He.DefD) (K : PySem.W.Frag) : Prop := obsX fx fn K = valX fn
def obsXG (n : Nat) (fx : List Fx) (fn : List He.DefD) (g : Addr → Option Obj) : AlX := obsX fx fn (He.frG g (He.asD g n))
def hookX (n : Nat) (fx : List Fx) (fn : List He.DefD) : PySem.W.Hook where
  α := AlX
  obs := fun s => obsXG n fx fn s.heap.get?
  val := fun _ => valX fn
  says := fun _ h => ∃ K : PySem.W.Frag, K.In h ∧ SaysX fx fn K
  of := fun _ _ e => ⟨_, He.frG_in, e⟩
  keeps := fun _ _ _ ⟨K, hK, c⟩ k => ⟨K, PySem.W.Frag.In.keeps hK k, c⟩
section
variable {fx : List Fx} {fn : List He.DefD} {K : PySem.W.Frag} {h : Heap} {mg : Str → Option Value}
theorem SaysX.fact (c : SaysX fx fn K) (i : Nat) {f : Fx} (h : fx[i]? = some f := by rfl) : f.ok K = true :=
  List.all_eq_true.mp (He.ba (congrArg (fun z : AlX => z.1) c : ((fx.all fun f => f.ok K) && fn.all fun d => d.ok K) = true)).1 f (List.mem_of_getElem? h)
theorem SaysX.defs (c : SaysX fx fn K) : ∃ gd : Nat → FuncData, ∀ (j : Nat) (d : He.DefD), fn[j]? = some d → FunD K d.name d.qual d.params d.body d.scope (d.dvs K) (d.kws K) (He.fAd K d.at_) (gd j) := by
  have one : ∀ j : Nat, ∃ fd : FuncData, ∀ d : He.DefD, fn[j]? = some d → FunD K d.name d.qual d.params d.body d.scope (d.dvs K) (d.kws K) (He.fAd K d.at_) fd := fun j => by
    cases e : fn[j]? with
    | none => exact ⟨PySem.W.fnOf "" "" ⟨[], [], none, [], [], none, []⟩ [] ⟨.function, [], false, false, []⟩ .none .none .none .none none .none .none, fun d q => by cases q⟩
    | some d0 =>
      have c2 := (He.ba (congrArg (fun z : AlX => z.1) c : ((fx.all fun f => f.ok K) && fn.all fun d => d.ok K) = true)).2
      have e1 : fn.map (fun d => He.fnW K d.at_) = fn.map He.DefD.val := congrArg (fun z : AlX => z.2) c
      have e2 := congrArg (fun l : List He.FnW => l[j]?) e1
      have e2 : (fn.map fun d => He.fnW K d.at_)[j]? = (fn.map He.DefD.val)[j]? := e2
      rw [List.getElem?_map, List.getElem?_map, e] at e2
      obtain ⟨fd, F⟩ := He.DefD.funD (Option.some.inj e2) (List.all_eq_true.mp c2 d0 (List.mem_of_getElem? e))
      exact ⟨fd, fun d q => by cases Option.some.inj q; exact F⟩
  exact ⟨fun j => (one j).choose, fun j => (one j).choose_spec⟩
theorem fun_of {x q : Str} {st : Stmt} {f : Addr} {fd : FuncData} (F : FunD K x q (defArgs st) (defBody st) (defScope st) [] [] f fd) : Fun K x q st f fd := by
  obtain ⟨⟨oc, od, dV, kV, doc, pm, an, cdv, ct, osl, e, lk, hcd, hD, hK⟩, kp⟩ := F
  rcases hD with ⟨_, rfl⟩ | ⟨n, _⟩
  · subst e
    exact ⟨⟨oc, od, kV, doc, pm, an, cdv, ct, osl, rfl, lk, hcd⟩, kp⟩
  · exact absurd rfl n
theorem kw_of {x q : Str} {st : Stmt} {f : Addr} {fd : FuncData} {ps ks : List Str} {pm : List Nat} (F : Fun K x q st f fd)
    (h : ∀ (kV doc pm' : Value) (an : Option Addr) (cdv ct : Value), KwOk K (PySem.W.fnOf x q (defArgs st) (defBody st) (defScope st) .none kV doc pm' an cdv ct) ps ks pm) : KwOk K fd ps ks pm := by
  obtain ⟨oc, od, kV, doc, pm', an, cdv, ct, osl, rfl, lk, hcd⟩ := F.ex
  exact h _ _ _ _ _ _
theorem glo_x (X : K.In h) (G : h.Ns mainGlobals mg) {x : Str} (c : (Fx.a (.glo x)).ok K = true) : mg x = some (.ref (He.ga K x)) := He.glo_ok X G c
theorem free_x (X : K.In h) (G : h.Ns mainGlobals mg) {x : Str} (c : (Fx.a (.free x)).ok K = true) : mg x = none := He.free_ok X G c
theorem int_x (X : K.In h) (G : h.Ns mainGlobals mg) {x : Str} {i : Int} (c : (Fx.a (.int x i)).ok K = true) : ∃ t, mg x = some (.int i t) := He.int_ok X G c
theorem exm_x {x y : Str} {b : Bool} (c : (Fx.a (.exm x y b)).ok K = true) : PySem.W.exmOne K (.ref (He.ga K x)) (.ref (He.ga K y)) = some b := He.exm_ok c
theorem vb_x {B i : String} (c : (Fx.vb B i).ok K = true) : PySem.W.findCls K (.type B) (.type "type") "__init__" = some (.val (.builtin i)) := by
  have c : (match PySem.W.findCls K (.type B) (.type "type") "__init__" with
    | some (.val (.builtin n)) => decide (n = i)
    | _ => false) = true := c
  split at c
  · rename_i n e; rw [e, of_decide_eq_true c]
  · cases c
theorem con_x {g : G} (hg : g.K = K) (X : K.In h) (G : h.Ns mainGlobals mg) {x : Str} {d : D} (c : (Fx.con x d).ok K = true) : ∃ a, mg x = some (.ref a) ∧ ∀ A H, Rp g A H (.ref a) d := by
  obtain ⟨c1, c2⟩ := He.ba c
  exact const_t hg (PySem.W.mg_of X G (He.eqO_ok c1)) c2
theorem err_x {x : Str} {bm : List Value} {n : String} {fs : List Str} (c : (Fx.err x bm n fs).ok K = true) : ErrC K (He.ga K x) n bm ∧ PySem.W.findIn K (.ref (He.ga K x)) "__init__" = some (some (.ref (He.fAd K (x, some "__init__")))) ∧ ErrOk K (He.ga K x) (He.fAd K (x, some "__init__")) fs := by
  obtain ⟨c1, c2⟩ := He.ba c
  obtain ⟨c2, c3⟩ := He.ba c2
  have o := errB_ok c3
  exact ⟨⟨ecB_ok c1, o.setA, o.isE, o.isT, o.kept⟩, He.eqO_ok c2, o⟩
end
theorem bind_of {K : PySem.W.Frag} {x q y : Str} {st : Stmt} {f : Addr} {fd : FuncData} (F : Fun K x q st f fd) (s : Shared) (u : Value)
    (h : ∀ (kV doc pm : Value) (an : Option Addr) (cdv ct : Value), bindArgs (PySem.W.fnOf x q (defArgs st) (defBody st) (defScope st) .none kV doc pm an cdv ct) ⟨[u], []⟩ = pure [(y, u)]) : BindsTo s fd ⟨[u], []⟩ [(y, u)] := by
  obtain ⟨_, _, kV, doc, pm, an, cdv, ct, _, rfl, _, _⟩ := F.ex
  exact .of_eq (h kV doc pm an cdv ct)
/-- the law over such a head -/
theorem law_head {l : PySem.W.OpenLaw} {k : Nat} {q : Program} {loose : List Str} {XP : (Str → Option Value) → Heap → Prop} {d : DefRec} {fx : List Fx} {fn : List He.DefD} {N : Nat} (hn : l.most = some 63) (hdf : d.params.defaults = []) (hd : d.name = "law") (hr : Room k callerA)
    (F : ∀ (w : World) (mg : Str → Option Value) (h : Heap) (K : PySem.W.Frag), SaysX fx fn K → K.In h → h.Ns mainGlobals mg → ∃ (fa : Addr) (fd : FuncData), mg "law" = some (.ref fa) ∧ (∀ (s : Shared) (u : Value), BindsTo s fd ⟨[u], []⟩ [("script", u)]) ∧
        ∀ base : Heap, K.In base → base.Ns mainGlobals mg → FnOk l.prog w K mg base (L2.CX l.prog w) k fa fd ["script"] (spLaw K)) :
    PySem.W.WalkO q loose XP (hookX N fx fn).says l.row.toRowW d [] (fun f vs => PySem.call f vs) :=
  Att.attach_call hn hdf fun w _ s1 mg _ fa _ _ _ _ a _ ns Gd Y _ _ _ hmg ho hi hl hg => by
    obtain ⟨K, KX, c⟩ := Y
    obtain ⟨fa', fd, e1, hb, hF⟩ := F w mg _ K c KX Gd.T.g
    rw [hd] at hmg
    obtain rfl : fa = fa' := by rw [e1] at hmg; cases hmg; rfl
    exact law_call KX Gd.T.g Gd.T.b Gd.T.builtins Gd.T.nolimit hg ho hi (Nat.le_trans hl (by decide)) hr hF hb (fun H hO hS => ⟨a, ns, rfl, hO, hS, hl, fun _ => rfl⟩) fun H e s' => cx_no
end RE
set_option maxHeartbeats 4000000
namespace RE
open PySem PySem.Spec PyProof.Rows L2
end RE
set_option maxHeartbeats 4000000
namespace RE
open PySem PySem.Spec PyProof.Rows L2
section
variable {X : Cx} {g : G} {ER : EK} {o e : Expr} {i : Nat} {m : M} {apos cpos : Pos}
/-- a new list among names set at once -/
def xF (m : MA) (r : MX) : MX := fun st => bindO (m st) fun ds st1 => bindO (r (st1.addC st1.sl.length (.l ds))) fun ss st2 => .ok (.rf st1.ce.length :: ss) st2
theorem px_f {es : List Expr} {ma : MA} {r : MX} (ha : PE X e (tF g ER ma)) (hr : PA X es (tMX g ER r)) (hs : starEach (e :: es) X.env = (false, eval e X.env) :: starEach es X.env := by rfl) : PA X (e :: es) (tMX g ER (xF ma r)) := by
  refine PAi (pa_cons ha hr hs) fun σ H Q ⟨ρ, st, s, h⟩ => ⟨ρ, st, s, (OutC.bind h).mono fun ds st1 ρ1 H1 _ h1 s1 xs rs p hp => ?_⟩
  have xe := Ext.addC (c := .l ds) (i := st1.sl.length) (o := .lst xs) s1 hp
  have sa := s1.addC (c := .l ds) (i := st1.sl.length) (o := .lst xs) hp ⟨xs, upd_same, rs.ext xe.keep⟩
  rw [show σ.set st1.sl.length (some (.ref p)) = σ from List.set_eq_of_length_le (by rw [s1.len]; exact Nat.le_refl _)] at sa
  exact ⟨ρ1.addC p, _, sa, ((OutC.bind h1).later xe).mono fun ss st2 ρ2 H2 x2 h2 s2 vs rv => h2 ρ2 H2 Ext.refl s2 (.ref p :: vs) (SlA.cons (s := .rf st1.ce.length) ⟨p, rfl, x2.pre _ _ (adC s1.clen)⟩ rv)⟩
end
end RE
set_option maxHeartbeats 4000000
namespace RE
open PySem PySem.Spec PyProof.Rows L2
end RE
set_option maxHeartbeats 4000000
namespace RE
open PySem PySem.Spec PyProof.Rows L2
theorem mapO_map {α β γ : Type} {f : β → Option γ} {i : α → β} {h : α → γ} (xs : List α) (e : ∀ x ∈ xs, f (i x) = some (h x)) : mapO f (xs.map i) = some (xs.map h) := by
  induction xs with
  | nil => rfl
  | cons x xs ih =>
    rw [List.map_cons]
    unfold mapO
    rw [e x (List.mem_cons_self ..), ih fun y m => e y (List.mem_cons_of_mem _ m)]
    rfl
abbrev P2 := Int × Int
def sq (p : P2) : D := .tup [.int p.1, .int p.2]
def pq (p : P2) : PyData := .tuple [.int p.1, .int p.2]
def ltP (p q : P2) : Bool := decide (p.1 < q.1) || (decide (p.1 = q.1) && decide (p.2 < q.2))
theorem ltP_iff {p q : P2} : ltP p q = true ↔ p.1 < q.1 ∨ (p.1 = q.1 ∧ p.2 < q.2) := by simp [ltP]
theorem ltP_asym {p q : P2} (h : ltP p q = true) : ltP q p = false := by rw [Bool.eq_false_iff]; intro k; rw [ltP_iff] at *; omega
def Asc (R : List P2) : Prop := R.Pairwise fun p q => ltP p q = true
theorem Asc.filter {R : List P2} (h : Asc R) (b : P2 → Bool) : Asc (R.filter b) := List.Pairwise.filter b h
theorem Asc.eq {R T : List P2} (h : Asc R) (k : Asc T) (p : R.Perm T) : R = T := List.Perm.eq_of_pairwise (le := fun p q => ltP p q = true) (fun a b _ _ h1 h2 => by rw [ltP_asym h1] at h2; cases h2) h k p
theorem lcS_at {α : Type} {tg : Tg} {tt : MT} {me : M} {w : List Sl} {ce : List Ce} {i f : α → D} {b : α → Bool} (xs : List α)
    (h : ∀ x ∈ xs, ∃ w', tg (i x) ⟨w, ce⟩ = some ⟨w', ce⟩ ∧ tt ⟨w', ce⟩ = .ok (b x) ⟨w', ce⟩ ∧ (b x = true → me ⟨w', ce⟩ = .ok (f x) ⟨w', ce⟩)) :
    lcS tg tt me w (xs.map i) ce = some ((xs.filter b).map f, ce) := by
  induction xs with
  | nil => rfl
  | cons x xs ih =>
    obtain ⟨w', h1, h2, h3⟩ := h x (List.mem_cons_self ..)
    have q := ih fun y m => h y (List.mem_cons_of_mem _ m)
    rw [List.map_cons]
    unfold lcS
    simp only [h1, h2]
    cases e : b x with
    | true =>
      simp only [h3 e, q]
      rw [List.filter_cons_of_pos e]
      rfl
    | false =>
      simp only [q]
      rw [List.filter_cons_of_neg (by rw [e]; decide)]
theorem lc_at {α : Type} {mi : MI} {tg : Tg} {tt : MT} {me : M} {vs : List Nat} {st : S} {i f : α → D} {b : α → Bool} (xs : List α) (hi : mi st = .ok (xs.map i) st) (hl : xs.length ≤ 1000000)
    (h : ∀ x ∈ xs, ∃ w', tg (i x) ⟨wipeS st.sl vs, st.ce⟩ = some ⟨w', st.ce⟩ ∧ tt ⟨w', st.ce⟩ = .ok (b x) ⟨w', st.ce⟩ ∧ (b x = true → me ⟨w', st.ce⟩ = .ok (f x) ⟨w', st.ce⟩)) :
    mLc mi tg tt me vs st = .ok (.lst ((xs.filter b).map f)) st := by
  unfold mLc
  rw [hi]
  show (match lcS tg tt me (wipeS st.sl vs) (xs.map i) st.ce with
    | some (xs, ce) => if xs.length ≤ 1000000 then O.ok (D.lst xs) (st.with ce) else .no
    | none => .no) = _
  rw [lcS_at xs h]
  show (if ((xs.filter b).map f).length ≤ 1000000 then _ else _) = _
  rw [if_pos (by rw [List.length_map]; exact Nat.le_trans (List.length_filter_le ..) hl)]
  rfl
theorem lc_all {α : Type} {mi : MI} {tg : Tg} {me : M} {vs : List Nat} {st : S} {i f : α → D} (xs : List α) (hi : mi st = .ok (xs.map i) st) (hl : xs.length ≤ 1000000)
    (h : ∀ x ∈ xs, ∃ w', tg (i x) ⟨wipeS st.sl vs, st.ce⟩ = some ⟨w', st.ce⟩ ∧ me ⟨w', st.ce⟩ = .ok (f x) ⟨w', st.ce⟩) :
    mLc mi tg mYes me vs st = .ok (.lst (xs.map f)) st := by
  have q := lc_at (tt := mYes) (b := fun _ => true) xs hi hl fun x m => (h x m).imp fun w' q => ⟨q.1, rfl, fun _ => q.2⟩
  rwa [List.filter_eq_self.mpr fun _ _ => rfl] at q
def kq (p : P2) : List Key := [.inl p.1, .inl p.2]
end RE
set_option maxHeartbeats 4000000
namespace RE
open PySem PySem.Spec PyProof.Rows L2
def rtD : SO → Option D
  | .rt d _ => some d
  | _ => none
def Rn (ms : MS) (n : Nat) (as : List D) (d : D) : Prop := ∀ st, runD ms n as st = .ok d st
theorem rn {ms : MS} {n : Nat} {as : List D} {d : D} {st' : S} (h : ms (S.start (as.map .d) n []) = .rt d st') : Rn ms n as d := fun st => by
  unfold runD
  rw [h]
theorem rn' {ms : MS} {n : Nat} {as : List D} {d : D} (h : rtD (ms (S.start (as.map .d) n [])) = some d) : Rn ms n as d := by
  cases e : ms (S.start (as.map .d) n []) with
  | rt x st' =>
    rw [e] at h
    cases Option.some.inj h
    exact rn e
  | _ => rw [e] at h; cases h
theorem call_at {ms : MS} {n : Nat} {as : List D} {d : D} {ma : MA} {st st1 : S} (h : ma st = .ok as st1) (r : Rn ms n as d) : mCall ms n [] ma st = .ok d st1 := by
  unfold mCall
  rw [h]
  show runD ms n (as ++ []) st1 = _
  rw [List.append_nil]
  exact r st1
theorem seq_to {a b : MS} {st st1 : S} {r : SO} (h : a st = .nx st1) (k : b st1 = r) : mSeq a b st = r := by
  rw [seq_at h]
  exact k
theorem mlst_at {ms : MA} {st st1 : S} {ds : List D} (h : ms st = .ok ds st1) (hl : ds.length ≤ 1000) : mLst ms st = .ok (.lst ds) st1 := by
  unfold mLst
  rw [h]
  show (if ds.length ≤ 1000 then _ else _) = _
  rw [if_pos hl]
theorem if_c {t : MT} {a b : MS} {st st1 : S} {k : Bool} (h : t st = .ok k st1) : mIf t a b st = if k = true then a st1 else b st1 := by
  unfold mIf
  rw [h]
  rfl
theorem ife_f {t : MT} {m n : M} {st st1 : S} {o : O D} (h : t st = .ok false st1) (k : n st1 = o) : mIfE t m n st = o := by
  unfold mIfE
  rw [h]
  exact k
theorem ife_t {t : MT} {m n : M} {st st1 : S} {o : O D} (h : t st = .ok true st1) (k : m st1 = o) : mIfE t m n st = o := by
  unfold mIfE
  rw [h]
  exact k
theorem rn_nx {ms : MS} {n : Nat} {as : List D} {st' : S} (h : ms (S.start (as.map .d) n []) = .nx st') : Rn ms n as .non := fun st => by
  unfold runD
  rw [h]
theorem ix_at {α : Type} {d : D} {i : α → D} {R : List α} (h : seqD d = some (R.map i)) {k : Int} {n : Nat} (hk : k = n) {p : α} (hp : R[n]? = some p) : ixD d (.int k) = some (i p) := by
  rw [ixD_seq h]
  show atD (R.map i) k = _
  have lt : n < R.length := (List.getElem?_eq_some_iff.mp hp).1
  unfold atD ixN
  rw [if_pos (by omega), if_pos (by rw [List.length_map]; omega)]
  show (R.map i)[k.toNat]? = _
  rw [show k.toNat = n by omega, List.getElem?_map, hp]
  rfl
theorem or_at {m n : MT} {st : S} {a b : Bool} (h : m st = .ok a st) (k : a = false → n st = .ok b st) : mOrT m n st = .ok (a || b) st := by
  unfold mOrT
  rw [h]
  cases a
  · exact k rfl
  · rfl
theorem to_at {tg : Tg} {m : M} {st st1 st2 : S} {d : D} (h : m st = .ok d st1) (k : tg d st1 = some st2) : mTo tg m st = .nx st2 := by
  unfold mTo
  rw [h]
  show (match tg d st1 with
    | some st2 => SO.nx st2
    | none => .no) = _
  rw [k]
theorem par_at {is : List Nat} {ma : MA} {st st1 st2 : S} {ds : List D} (h : ma st = .ok ds st1) (k : putsD is ds st1 = some st2) : mPar is ma st = .nx st2 := by
  unfold mPar
  rw [h]
  show (match putsD is ds st1 with
    | some st2 => SO.nx st2
    | none => .no) = _
  rw [k]
theorem drop_at {m : M} {st st1 : S} {d : D} (h : m st = .ok d st1) : mDrop m st = .nx st1 := by
  unfold mDrop
  rw [h]
  rfl
inductive Gd : Nat → D → Prop where
  | int {n : Nat} (i : Int) : Gd (n + 1) (.int i)
  | tup {n : Nat} {ds : List D} (h : ∀ d ∈ ds, Gd n d) (hl : ds.length ≤ 1000000) : Gd (n + 1) (.tup ds)
  | lst {n : Nat} {ds : List D} (h : ∀ d ∈ ds, Gd n d) (hl : ds.length ≤ 1000000) : Gd (n + 1) (.lst ds)
theorem Gd.sq {n : Nat} (p : P2) : Gd (n + 2) (sq p) := .tup (fun d h => by
  rcases List.mem_cons.mp h with rfl | h
  · exact .int _
  · rcases List.mem_cons.mp h with rfl | h
    · exact .int _
    · cases h) (show 2 ≤ 1000000 by decide)
theorem all_true {n : Nat} : allD [.lst (List.replicate n (.bl true))] = some (.bl true) := by
  unfold allD
  have e : mapO blD (List.replicate n (.bl true)) = some (List.replicate n true) := by
    induction n with
    | zero => rfl
    | succ n ih =>
      rw [List.replicate_succ]
      unfold mapO
      rw [ih]
      rfl
  simp only [e]
  congr 2
  rw [List.all_eq_true]
  intro x h
  rw [(List.mem_replicate.mp h).2]
  rfl
theorem map_true {α : Type} (xs : List α) : (xs.map fun _ => D.bl true) = List.replicate xs.length (.bl true) := by rw [List.map_const']
abbrev tinC (a b t : Int) : Ce := .l [.int a, .int b, .int t]
/-- at most K draws, and then a datum of P -/
def RnR (ms : MS) (n : Nat) (as : List D) (K : Int) (P : D → Prop) : Prop := ∀ a b t : Int, 0 ≤ t → t + K < 1000000 →
  ∃ d a' t' st', P d ∧ 0 ≤ t' ∧ t' ≤ t + K ∧ ms (S.start (.rf 0 :: as.map .d) n [tinC a b t]) = .rt d st' ∧ st'.ce[0]? = some (tinC a' b t')
theorem refOf_d (as : List D) : okRef k (as.map .d) = true := by
  induction as with
  | nil => rfl
  | cons d as ih => exact ih
theorem toZero_d (as : List D) : toZero (as.map .d) = as.map .d := by
  induction as with
  | nil => rfl
  | cons d as ih => show Sl.d d :: toZero (as.map .d) = _; rw [ih]; rfl
theorem callR_at {ms : MS} {n : Nat} {as : List D} {K : Int} {P : D → Prop} {mr : MR} {st st1 : S} {k : Nat} {a b t : Int} (r : RnR ms n as K P) (h : mr st = .ok (.rf k :: as.map .d) st1) (hc : st1.ce[k]? = some (tinC a b t)) (t0 : 0 ≤ t) (t1 : t + K < 1000000) :
    ∃ d a' t', P d ∧ 0 ≤ t' ∧ t' ≤ t + K ∧ mCallR ms n [] mr st = .ok d (st1.setC k (tinC a' b t')) := by
  obtain ⟨d, a', t', st', p, q1, q2, e, ec⟩ := r a b t t0 t1
  refine ⟨d, a', t', p, q1, q2, ?_⟩
  unfold mCallR
  rw [h]
  show runR ms n ((Sl.rf k :: as.map .d) ++ []) st1 = _
  rw [List.append_nil]
  unfold runR
  show (match st1.ce[k]? with
    | none => O.no
    | some c => if ((c.alive && c.flat) && okRef k (Sl.rf k :: as.map .d)) = true then (match ms (S.start (toZero (Sl.rf k :: as.map .d)) n [c]) with
      | .rt d st' => (match st1.gets k st'.ce with
        | some st2 => O.ok d st2
        | none => .no)
      | .nx st' => (match st1.gets k st'.ce with
        | some st2 => .ok .non st2
        | none => .no)
      | .er e vs st' => (match st1.gets k st'.ce with
        | some st2 => .er e vs st2
        | none => .no)
      | _ => .no) else .no) = _
  rw [hc]
  have hk : okRef k (Sl.rf k :: as.map .d) = true := by
    show (decide (k = k) && okRef k (as.map .d)) = true
    rw [refOf_d]
    simp
  show (if ((true && true) && okRef k (Sl.rf k :: as.map .d)) = true then _ else _) = _
  rw [hk, if_pos (by rfl)]
  show (match ms (S.start (.rf 0 :: toZero (as.map .d)) n [tinC a b t]) with
      | .rt d st' => (match st1.gets k st'.ce with
        | some st2 => O.ok d st2
        | none => .no)
      | .nx st' => (match st1.gets k st'.ce with
        | some st2 => .ok .non st2
        | none => .no)
      | .er e vs st' => (match st1.gets k st'.ce with
        | some st2 => .er e vs st2
        | none => .no)
      | _ => .no) = _
  rw [toZero_d, e]
  show (match st1.gets k st'.ce with
    | some st2 => O.ok d st2
    | none => .no) = _
  unfold S.gets
  rw [ec]
  rfl
/-- what is handed on: the source and data -/
theorem ref_at {i k : Nat} {st : S} {r : MR} {as : List D} {st1 : S} (hi : st.sl[i]? = some (.rf k)) (h : r st = .ok (as.map .d) st1) : rRef i r st = .ok (.rf k :: as.map .d) st1 := by
  unfold rRef
  rw [hi]
  show bindO (r st) _ = _
  rw [h]
  rfl
theorem rdat_at {m : M} {r : MR} {st st1 st2 : S} {d : D} {as : List D} (h : m st = .ok d st1) (k : r st1 = .ok (as.map .d) st2) : rDat m r st = .ok ((d :: as).map .d) st2 := by
  unfold rDat
  rw [h]
  show bindO (r st1) _ = _
  rw [k]
  rfl
end RE
set_option maxHeartbeats 4000000
namespace RE
open PySem PySem.Spec PyProof.Rows L2
noncomputable abbrev runO (r : PySem.W.OpenRow) (M : Nat) (w : World) : Option (Shared × PySem.W.SharedT) := HandSHeadRun.wholeF (fun (p : Program) => HandSHeadRun.stepQ (HandSHeadRun.denQ HandSHeadRun.tabQ) p w) HandSHeadRun.fenceQ M r.prog
end RE
set_option maxHeartbeats 4000000
namespace RE
open PySem PySem.Spec PyProof.Rows L2
end RE
set_option maxHeartbeats 4000000
namespace RE
open PySem PySem.Spec PyProof.Rows L2
def obsA (as : List Addr) (fx : List Fx) (fn : List He.DefD) (g : Addr → Option Obj) : AlX := obsX fx fn (He.frG g as)
def hookA (as : List Addr) (fx : List Fx) (fn : List He.DefD) : PySem.W.Hook where
  α := AlX
  obs := fun s => obsA as fx fn s.heap.get?
  val := fun _ => valX fn
  says := fun _ h => ∃ K : PySem.W.Frag, K.In h ∧ SaysX fx fn K
  of := fun _ _ e => ⟨_, He.frG_in, e⟩
  keeps := fun _ _ _ ⟨K, hK, c⟩ k => ⟨K, PySem.W.Frag.In.keeps hK k, c⟩
abbrev obU (as : List Addr) (fx : List Fx) (fn : List He.DefD) (s : PySem.W.SharedT) : AlX := obsA as fx fn (HandSHeadRun.getT s)
theorem obU_eq {as : List Addr} {fx : List Fx} {fn : List He.DefD} (s : PySem.W.SharedT) : obU as fx fn s = (hookA as fx fn).obs s.abs := by
  show obsA as fx fn (HandSHeadRun.getT s) = obsA as fx fn s.abs.heap.get?
  rw [show HandSHeadRun.getT s = s.abs.heap.get? from funext (HandSHeadRun.getT_eq s)]
theorem runEqA_of {r : PySem.W.OpenRow} {q : Program} {as : List Addr} {fx : List Fx} {fn : List He.DefD} {M : Nat} {loose : List Str} {w : World}
    (h1 : (runO r M w).map (fun x => HandSHeadRun.looksF r.prog x.1.heap x.2.abs) = some true)
    (h2 : (runO r M w).map (fun x => HandSHeadRun.seenQ q loose (importedModules r.prog.main.body) (fun (s : Shared) => PySem.W.xlAt q [] s && PySem.W.recOk r.records s) x.2.abs) = some (PySem.W.openGood q loose))
    (h3 : (runO r M w).map (fun x => obU as fx fn x.2) = some (valX fn)) : HandSHeadRun.RunEqI r q (hookA as fx fn) (obU as fx fn) M loose w := by
  unfold HandSHeadRun.RunEqI
  show (runO r M w).map _ = _
  cases e : runO r M w with
  | none => rw [e] at h1; cases h1
  | some x =>
    rw [e] at h1 h2 h3
    exact congrArg some (Prod.ext (Option.some.inj h1) (Prod.ext (Option.some.inj h2) (Option.some.inj h3)))
end RE
set_option maxHeartbeats 4000000
namespace RE
open PySem PySem.Spec PyProof.Rows L2
def rPairsT (K : PySem.W.Frag) : List V → Hp → VK → Prop := fun vs H Q => ∃ (a : Addr) (xs : List V) (L : List (List Key × V)), vs = [V.ref a] ∧ SqT K H a xs ∧ BareT K (.ref a) H ∧ Pd H xs L ∧ ∀ p, H p = none → Q (.ref p) (upd H p (.dT (putAll [] L)))
theorem cr_pairsT {X : Cx} (hu : X.A.units + 64 < cLine) (calm : X.calm = true) : CallR X (.type "dict") (rPairsT X.K) := by
  intro pins s σ H vs us Q I r h
  obtain ⟨a, xs, L, rfl, hs, hb, hp, q⟩ := h
  obtain rfl := Vals.ref1 r
  obtain ⟨its, rv, pl, hz⟩ := I.tuple hs
  obtain ⟨ts, ps, k1, k2, k3, k4⟩ := hp.vals I rv
  have hit : its.toArray.size = (ps.map fun p => (Value.ref p.2.1, p.2.2)).length := by rw [List.size_toArray, k3, List.length_map, List.length_map, k2]
  have fresh : H s.heap.objs.size = none := I.hok.fresh (Nat.le_refl _)
  have ok : PlainSeq "tuple" s.heap a its.toArray ∧ PairItems s.heap its.toArray (fun j => ts.getD j 0) (ps.map fun p => (Value.ref p.2.1, p.2.2)) := by
    refine ⟨?_, hit, fun j k v e => ?_⟩
    · obtain ⟨o, e1, e2, n, e3⟩ := pl
      obtain ⟨_, hd⟩ := bare_is I (show RelV (.ref a) (.ref a) from rfl) hb
      obtain ⟨ob, e4, e5⟩ := hd a rfl
      rw [e1] at e4
      cases Option.some.inj e4
      exact ⟨o, n, e1, e2, e5, e3⟩
    · rw [List.getElem?_map] at e
      obtain ⟨p, hp2, e⟩ := Option.map_eq_some_iff.mp e
      cases e
      have lt : j < ts.length := by rw [k2]; exact (List.getElem?_eq_some_iff.mp hp2).1
      have et : ts[j]? = some ts[j] := List.getElem?_eq_getElem lt
      have eg : ts.getD j 0 = ts[j] := by rw [List.getD_eq_getElem?_getD, et]; rfl
      show its.toArray[j]? = some (.ref (ts.getD j 0)) ∧ PairAt s.heap (ts.getD j 0) _ _
      rw [eg]
      refine ⟨?_, .inl (k4 j _ p et hp2)⟩
      rw [k3]
      simp [et]
  have lsz : ps.length ≤ sizeLine := by
    have : its.length = ps.length := by rw [k3, List.length_map, k2]
    have e2 := rv.length
    omega
  refine call_dict_pairsH (knd := tupleKind (mixKind X.prog X.w)) (ps := ps) (PairArg.tuple a its.toArray (fun j => ts.getD j 0) (ps.map fun p => (Value.ref p.2.1, p.2.2))) (I.ok.hd calm) (by show X.A.units + 1 + 1 < cLine; omega) ok ?_ ?_ (by rw [List.length_map]; exact lsz) fun h' tk dh kp => ?_
  · refine ⟨by rw [List.length_map], fun i k v e => ?_⟩
    have e : (ps.map fun p => (Value.ref p.2.1, p.2.2))[i]? = some (k, v) := e
    rw [List.getElem?_map] at e
    obtain ⟨p, hp2, e⟩ := Option.map_eq_some_iff.mp e
    cases e
    exact ⟨p.1, p.2.1, hp2, rfl⟩
  · intro g hk x hx
    have all : ∀ {L : List (List Key × V)} {ps : List (List Key × Addr × Value)}, L2.KT H L ps → ∀ x ∈ ps, (tupleKind (mixKind X.prog X.w)).is g x.1 x.2.1 := by
      intro L ps k
      induction k with
      | nil => intro x hx; cases hx
      | @cons p y _ _ h t ih =>
        intro x hx
        rcases List.mem_cons.mp hx with rfl | m
        · obtain ⟨_, its2, r2, o, e1, e2, n, e3⟩ := (show ObjOk X.prog X.w H s.heap _ (.tup (p.1.map kV)) from I.hok _ _ h.2.1)
          have lt : x.2.1 < s.heap.objs.size := Heap.lt_size e1
          refine ⟨o, its2.toArray, n, hk _ _ (Nat.ne_of_lt lt) (by simp) e1, e2, e3, ?_⟩
          rw [← h.1]
          simpa using items_are r2
        · exact ih x m
    exact all k1 x hx
  · have nm : (s.heap.objs.size == sysModules) = false := beq_eq_false_iff_ne.mpr (Nat.ne_of_gt I.big)
    have len : (putAll [] L).length ≤ sizeLine := by
      have e1 := putAll_len L []
      have e2 : L.length = ps.length := Paired.length k1
      rw [List.length_nil] at e1
      omega
    have kt := putAll_kt (acc := []) (xs := []) .nil k1
    obtain ⟨o, es, ep, q1, q2, q3, q4, _, q5⟩ := dh
    refine ⟨.ref _, upd H s.heap.objs.size (.dT (putAll [] L)), I.laid (t' := tk) (fun c o e => kp c o (by simp) e) (Nat.le_refl _) ⟨len, nm, _, kt.keeps fun c vs e => ?_, o, es, ep, q1, q2, q3, q4, q5⟩, rfl, q _ fresh⟩
    rw [upd_ne (ne_of_none e fresh)]
    exact e
def nDictA (m : M) : S → O Ce := fun st => bindO (m st) fun d st1 => match d with
  | .lst ds => match pairsOf ds with
    | some M => .ok (.dT (putAllD [] M)) st1
    | none => .no
  | .kt ds => match pairsOf ds with
    | some M => .ok (.dT (putAllD [] M)) st1
    | none => .no
  | _ => .no
theorem pe_nDictA {X : Cx} {g : G} {ER : EK} {i : Nat} {p pos : Pos} {e : Expr} {m : M} (hk : X.K = g.K) (hu : X.A.units + 64 < cLine) (calm : X.calm = true) (hg : Gl X "dict") (hm : X.mg "dict" = none) (he : PE X e (tM g ER m))
    (hs : starEach [e] X.env = (false, eval e X.env) :: starEach [] X.env := by rfl) (hpl : (backTo pos (starEach ([] : List Expr) X.env)).any (·.1) = false := by rfl) : PE X (.Call (.Name "dict" p) [e] [] pos) (tN g ER i (nDictA m)) := by
  refine PEi (pe_callTy ((cr_pairs hu calm).or (cr_pairsT hu calm)) hg hm (by decide +kernel) (pa_cons he pa_nil hs) (by decide) (by decide) hs hpl) fun σ H Q h => ?_
  obtain ⟨ρ, st, s, h⟩ := h
  refine ⟨ρ, st, s, ?_⟩
  cases em : m st with
  | no => simp only [nDictA, bindO, em] at h
  | er c vs st' => simp only [nDictA, bindO, em] at h; exact h
  | ok d st1 =>
    simp only [nDictA, bindO, em] at h
    intro ρ1 H1 x1 s1 v rv
    have go : ∀ {xs : List V} {ds : List D} {M : List (List Key × D)}, RpA g (Vol ρ1 st1) H1 xs ds → pairsOf ds = some M →
        (∃ L : List (List Key × V), Pd H1 xs L ∧ ∀ p, H1 p = none → Ext ρ1 st1 H1 (ρ1.addC p) (st1.addC i (.dT (putAllD [] M))) (upd H1 p (.dT (putAll [] L))) ∧ Sim g (ρ1.addC p) (σ.set i (some (.ref p))) (upd H1 p (.dT (putAll [] L))) (st1.addC i (.dT (putAllD [] M)))) := by
      intro xs ds M ra e2
      obtain ⟨L, h1, h2, h3⟩ := pd_of ra e2
      obtain ⟨q1, q2⟩ := putAllD_ok (a := []) (b := []) rfl RpA.nil h2 h3
      refine ⟨L, h1, fun p hp => ?_⟩
      have xe := Ext.addC (c := .dT (putAllD [] M)) (i := i) (o := .dT (putAll [] L)) s1 hp
      exact ⟨xe, s1.addC (c := .dT (putAllD [] M)) (i := i) (o := .dT (putAll [] L)) hp ⟨_, upd_same, q1, q2.ext xe.keep⟩⟩
    cases d with
    | lst ds =>
      cases e2 : pairsOf ds with
      | none => simp only [e2] at h
      | some M =>
        simp only [e2] at h
        obtain ⟨a, xs, rfl, ha, na, ra⟩ := rv.inv_lst
        obtain ⟨L, h1, h2⟩ := go ra e2
        rw [hk]
        exact .inl ⟨a, xs, L, rfl, SqL.of ha, h1, fun p hp => by
          obtain ⟨xe, sa⟩ := h2 p hp
          exact h p ρ1 _ rfl (x1.trans xe) sa (adC s1.clen)⟩
    | kt ds =>
      cases e2 : pairsOf ds with
      | none => simp only [e2] at h
      | some M =>
        simp only [e2] at h
        obtain ⟨a, xs, rfl, ha, ra⟩ := rv.inv_kt
        obtain ⟨L, h1, h2⟩ := go ra e2
        rw [hk]
        exact .inr ⟨a, xs, L, rfl, ha.sq, ha.bare, h1, fun p hp => by
          obtain ⟨xe, sa⟩ := h2 p hp
          exact h p ρ1 _ rfl (x1.trans xe) sa (adC s1.clen)⟩
    | _ => exact h.elim
end RE
set_option maxHeartbeats 4000000
namespace RE
open PySem PySem.Spec PyProof.Rows L2
def mForIX (i : Nat) (j : Int) (tg : Tg) (body : MS) : MS := fun st => match st.cellOf i with
  | some k => match st.ce[k]? with
    | some (.l ds) => match atD ds j with
      | some x => match itemsOf x with
        | some es => noEr (loopS tg body es st)
        | none => .no
      | none => .no
    | _ => .no
  | none => .no
section
variable {X : Cx} {g : G} {ER : EK} {pos p p0 p1 p2 : Pos} {x : Str} {e : Expr}
theorem pe_int1 {i : Int} {c} : PE X (.Constant (.int i) c pos) (fun _ H Q => Q (.int i) H) := PEi pe_int fun _ _ _ h => h
theorem pe_neg1 {a : Expr} {j : Int} (ha : PE X a (fun _ H Q => Q (.int j) H)) : PE X (.UnaryOp .USub a pos) (fun _ H Q => Q (.int (-j)) H) := PEi (pe_un un_neg ha) fun _ _ _ h => ⟨j, rfl, h⟩
theorem ps_mForIX {ts : List Expr} {kk : Nat} {j : Int} {tp : Pos} {body : List Stmt} {t : TG} {tgd : Tg} {is : List Nat} {mb : MS} {i : Nat} (hk : X.K = g.K) (hp : PassesOwn (model X.prog X.w) X.A X.env X.xe) (hc : X.calm = true) (hi : PE X (.Name x p) (tVar i)) (he : PE X e (fun _ H Q => Q (.int j) H)) (hx : PlainIx e)
    (hg : PG X (.Tuple ts kk tp) t) (ok : GOk g tgd t is) (hb : PSs X body (tMS g ER mb))
    (hs : ∀ y, foldedSetIterable (.Call (.Attribute (.Subscript (.Name x p) e p0) "items" p1) [] [] p2) X.env y = pure y := by intro _; rfl)
    (ha : attributeBase (.Subscript (.Name x p) e p0) "items" X.env (eval (.Subscript (.Name x p) e p0) X.env) = eval (.Subscript (.Name x p) e p0) X.env := by rfl) (hl : (p1.endLine == p2.line) = true := by rfl) :
    PS X (.For (.Tuple ts kk tp) (.Call (.Attribute (.Subscript (.Name x p) e p0) "items" p1) [] [] p2) body [] pos) (tMS g ER (mForIX i j tgd mb)) := by
  have hf := pe_ix (pos := p0) ix_seq hi he hx
  have both := PI.or (pi_items (elts := ts) (kk := kk) (tpos := tp) hf ha hl) (pi_itemsT (ts := ts) (kk := kk) (tp := tp) hf ha hl)
  refine PSi (PS.or (ps_lock (ps_for hp hc both hg hb hs)) (ps_for hp hc both hg hb hs)) fun E σ H h => ?_
  obtain ⟨ρ, st, s, h⟩ := h
  unfold mForIX at h
  cases e1 : st.cellOf i with
  | none => simp only [e1] at h; exact h.elim
  | some k =>
  simp only [e1] at h
  obtain ⟨b, ev, hb0⟩ := s.rf (cellOf_ok e1)
  split at h
  case h_2 => exact h.elim
  rename_i ds e2
  obtain ⟨ys, hb', rb⟩ := s.cell k _ b e2 hb0
  cases e3 : atD ds j with
  | none => simp only [e3] at h; exact h.elim
  | some y =>
  simp only [e3] at h
  obtain ⟨u, hu, q3⟩ := atD_ok rb e3
  split at h
  case h_2 => exact h.elim
  rename_i es eds
  cases y with
  | dT kvs =>
    cases Option.some.inj eds
    obtain ⟨a, xs, rfl, rd, nv, ek, er⟩ := q3.inv_dT
    rcases rd with rd | ⟨o, rd⟩
    · refine .inl ⟨a, .dT xs, rd, trivial, fun od => ?_⟩
      have s1 := s.lock (od := od) rd trivial nv
      have hb2 : upd H a (.frz od (.dT xs)) b = some (.lst ys) := by rw [upd_ne (ne_of hb' rd fun z => nomatch z)]; exact hb'
      exact .inr ⟨.ref b, ev, .inl ⟨b, ys, j, .ref a, rfl, rfl, SqL.of hb2, hu, a, od, xs, rfl, upd_same, for_core ok s1 (OutS.locked rd trivial nv h) (it_itemsT upd_same nv ek (er.lock rd trivial))⟩⟩
    · exact .inr (.inr ⟨.ref b, ev, .inl ⟨b, ys, j, .ref a, rfl, rfl, SqL.of hb', hu, a, o, xs, rfl, rd, for_core ok s (OutS.unEr h) (it_itemsT rd nv ek er)⟩⟩)
  | dK kvs =>
    cases Option.some.inj eds
    obtain ⟨a, xs, rfl, rd, nv, ek, er⟩ := q3.inv_dK
    rcases rd with rd | ⟨o, rd⟩
    · refine .inl ⟨a, .dK xs, rd, trivial, fun od => ?_⟩
      have s1 := s.lock (od := od) rd trivial nv
      have hb2 : upd H a (.frz od (.dK xs)) b = some (.lst ys) := by rw [upd_ne (ne_of hb' rd fun z => nomatch z)]; exact hb'
      exact .inl ⟨.ref b, ev, .inl ⟨b, ys, j, .ref a, rfl, rfl, SqL.of hb2, hu, a, od, xs, rfl, upd_same, for_core ok s1 (OutS.locked rd trivial nv h) (it_itemsK upd_same nv ek (er.lock rd trivial))⟩⟩
    · exact .inr (.inl ⟨.ref b, ev, .inl ⟨b, ys, j, .ref a, rfl, rfl, SqL.of hb', hu, a, o, xs, rfl, rd, for_core ok s (OutS.unEr h) (it_itemsK rd nv ek er)⟩⟩)
  | _ => cases eds
end
end RE
set_option maxHeartbeats 4000000
namespace RE
open PySem PySem.Spec PyProof.Rows L2
section
variable {X : Cx} {g : G} {ER : EK} {pos : Pos}
theorem ps_mParX3 {i j l : Nat} {x y z : Str} {a b c : Expr} {ma : MX} {px py pz pt : Pos} {kt k2 pt2} (hc : X.calm = true) (hN : X.N.Nodup) (hi : X.N[i]? = some x) (hj : X.N[j]? = some y) (hl : X.N[l]? = some z) (hij : i ≠ j) (hil : i ≠ l) (hjl : j ≠ l)
    (hx : X.env.scope.names.lookup x = some .local) (hy : X.env.scope.names.lookup y = some .local) (hz : X.env.scope.names.lookup z = some .local) (ha : PA X [a, b, c] (tMX g ER ma)) (hw : swappedStores [.Tuple [.Name x px, .Name y py, .Name z pz] kt pt] (.Tuple [a, b, c] k2 pt2) X.env = pure (some [x, y, z])) (hs : swapsWithSole [.Tuple [.Name x px, .Name y py, .Name z pz] kt pt] (.Tuple [a, b, c] k2 pt2) pos.line X.env = pure false := by rfl) :
    PS X (.Assign [.Tuple [.Name x px, .Name y py, .Name z pz] kt pt] (.Tuple [a, b, c] k2 pt2) pos) (tMS g ER (mParX [i, j, l] ma)) := by
  refine PSi (ps_par3 hc hN hi hj hl hij hil hjl hx hy hz ha hw hs) fun E σ H ⟨ρ, st, s, h⟩ => ⟨ρ, st, s, (OutS.bind h).mono fun ss st1 ρ1 H1 _ h1 s1 vs rs => ?_⟩
  match ss, vs, rs, h1 with
  | [], _, _, h1 => exact h1.elim
  | [_], _, _, h1 => exact h1.elim
  | [_, _], _, _, h1 => exact h1.elim
  | [d, e, f], [], rs, h1 => have := rs.1; simp at this
  | [d, e, f], [_], rs, h1 => have := rs.1; simp at this
  | [d, e, f], [_, _], rs, h1 => have := rs.1; simp at this
  | [d, e, f], _ :: _ :: _ :: _ :: _, rs, h1 => have := rs.1; simp at this
  | [d, e, f], [v, u, t], rs, h1 =>
    obtain ⟨r1, r2⟩ := SlA.uncons rs
    obtain ⟨r2, r3⟩ := SlA.uncons r2
    obtain ⟨r3, _⟩ := SlA.uncons r3
    have s2 := s1.put i (slok_of r1)
    have s3 := s2.put j (v := u) (sl := e) (slok_of (SlA.uncons (SlA.go (SlA.cons r2 SlA.nil) (A' := Vol ρ1 (st1.put i d)) (H' := H1) (fun a o h n => ⟨h, n⟩) fun _ _ h => h)).1)
    have s4 := s3.put l (v := t) (sl := f) (slok_of (SlA.uncons (SlA.go (SlA.cons r3 SlA.nil) (A' := Vol ρ1 ((st1.put i d).put j e)) (H' := H1) (fun a o h n => ⟨h, n⟩) fun _ _ h => h)).1)
    exact ⟨v, u, t, rfl, h1 ρ1 _ H1 (Ext.refl.ce rfl) s4⟩
  | _ :: _ :: _ :: _ :: _, _, _, h1 => exact h1.elim
end
end RE
set_option maxHeartbeats 4000000
namespace RE
open PySem PySem.Spec PyProof.Rows L2
def tDisp1T (tk tv : TE) : TE := fun σ H Q => ∀ p, H p = none → tPairs [(tk, tv)] σ (upd H p (.dT [])) fun ps H2 => H2 p = some (.dT []) ∧ ∃ (ks : List Key) (b : Addr) (y : V), ps = [(.ref b, y)] ∧ H2 b = some (.tup (ks.map kV)) ∧ Q (.ref p) (upd H2 p (.dT [(ks, y)]))
theorem pe_disp1T {X : Cx} {pos : Pos} {e v : Expr} {tk tv : TE} (hu : X.A.units + 1 < cLine) (hk : PE X e tk) (hv : PE X v tv) : PE X (.Dict [some e] [v] pos) (tDisp1T tk tv) := by
  refine ⟨fun pins s σ H Q I q => ?_⟩
  have hn := I.hok.fresh (Nat.le_refl s.heap.objs.size)
  have I1 := I.laid (a := s.heap.objs.size) (o := .dT []) (h' := s.heap.push { cls := .type "dict", data := .dict #[] }) (t' := s.toks) (fun _ _ q => Heap.get?_push_of_some _ q) (Nat.le_refl _) (dt_empty s.heap I.big)
  rw [arm_eval_Dict, zip_pairTrees [some e] [v] X.env pos rfl rfl, dictDisplay_pairs _ (by intro z; have := congrArg List.length z; rw [pairTrees_length [some e] [v] X.env pos rfl rfl] at this; cases this) (by rw [pairTrees_length [some e] [v] X.env pos rfl rfl]; show 1 < 17; decide)]
  refine wpAny_bind (wpAny_standAt (wpAny_bind (wpAny_subDictH (knd := tupleKind (mixKind X.prog X.w)) (Q := fun d s' => wpAny (model X.prog X.w) X.A (pure (Value.ref d)) _ X.xe s') (show X.A.units < cLine by omega) (by rw [pairTrees_length [some e] [v] X.env pos rfl rfl]; show 1 ≤ 15; decide) (thn ((pps_cons hk hv pps_nil).run pins _ σ _ _ I1 (q _ hn)) fun ws s2 ⟨ps, H2, I2, rel, e2, ks, b, y, ep, eb, q2⟩ => ?_))))
  · subst ep
    cases rel with
    | @cons _ z _ zs r1 r2 =>
      cases r2
      obtain ⟨z1, z2⟩ := z
      obtain ⟨ra, rb⟩ := r1
      obtain rfl : z1 = Value.ref b := ra
      obtain ⟨_, hd, xs, kt, dd⟩ := dt_of I2.hok e2
      cases kt
      refine ⟨[(ks, b, z2)], ⟨rfl, rfl, key_of I2.hok eb, trivial⟩, dd, fun h' tk dd' hs => wpAny_pure ?_⟩
      obtain ⟨q', es, ep, hq, h2, h3, h4, _, h5⟩ := dd'
      refine ⟨.ref s.heap.objs.size, upd H2 s.heap.objs.size (.dT [(ks, y)]), d_write (t' := tk) I2 (by rw [e2]; exact True.intro) hs ⟨q', hq⟩ ⟨?_, hd, _, L2.KT.keeps (L2.KT.put (kvs := []) (xs := []) .nil ks eb rb) fun c ys ec => ?_, q', es, ep, hq, h2, h3, h4, h5⟩, rfl, q2⟩
      · show (1 : Nat) ≤ sizeLine
        rw [sizeLine_eq]
        decide
      · rw [upd_ne (ne_of ec e2 (fun z => nomatch z))]
        exact ec
def mDisp1T (mk mv : M) : M := fun st => match mk st with
  | .ok y st1 => match mv st1 with
    | .ok z st2 => match keysD y with
      | some k => .ok (.dT [(k, z)]) (st.with st2.ce)
      | none => .no
    | _ => .no
  | _ => .no
section
variable {X : Cx} {g : G} {ER : EK} {pos : Pos} {e v : Expr} {mk mv : M}
theorem pe_mDisp1T (hu : X.A.units + 1 < cLine) (hk : PE X e (tM g erNo mk)) (hv : PE X v (tM g erNo mv)) : PE X (.Dict [some e] [v] pos) (tM g ER (mDisp1T mk mv)) := by
  refine PEi (pe_disp1T hu hk hv) fun σ H Q h => ?_
  obtain ⟨ρ, st, s, h⟩ := h
  intro p hp
  have G0 := GrowD.zero (DK := dkT) s hp
  refine ⟨_, st, G0.sim, ?_⟩
  unfold mDisp1T at h
  cases e1 : mk st with
  | no => simp only [e1] at h; exact h.elim
  | er c vs st' => simp only [e1] at h; exact h.elim
  | ok y st1 =>
  simp only [e1] at h
  intro ρ1 H1 x1 s1 u ru
  have G1 := G0.go hp (stw := st) rfl x1 s1.toCells
  refine ⟨ρ1, st1, s1, ?_⟩
  cases e2 : mv st1 with
  | no => simp only [e2] at h; exact h.elim
  | er c vs st' => simp only [e2] at h; exact h.elim
  | ok z st2 =>
  simp only [e2] at h
  intro ρ2 H2 x2 s2 v rv
  have G2 := G1.go hp (stw := st1) rfl x2 s2.toCells
  cases e3 : keysD y with
  | none => simp only [e3] at h; exact h.elim
  | some k =>
  simp only [e3] at h
  obtain ⟨b, rfl, hb⟩ := keysD_ok (ru.go x2) e3
  refine ⟨G2.at', k, b, v, rfl, hb, ?_⟩
  have G3 := G2.push hp s.uo (k := k) rv
  obtain ⟨q1, q2, q3⟩ := G3.end hp s.uo
  exact h _ _ q1 q2 _ q3
end
end RE
set_option maxHeartbeats 4000000
namespace RE
open PySem PySem.Spec PyProof.Rows L2
open PySem.W (KdlSrc)
theorem kt_vals {H : Hp} : ∀ {kvs : List (List Key × V)} {xs : List (List Key × Addr × Value)}, L2.KT H kvs xs → Vals (kvs.map (·.2)) (xs.map (·.2.2))
  | _, _, .nil => .nil
  | _, _, .cons r t => .cons r.2.2 (kt_vals t)
def rDValsT : V → Hp → VK → Prop := fun x H Q => ∃ (d : Addr) (kvs : List (List Key × V)), x = V.ref d ∧ Rd H d (.dT kvs) ∧ ∀ p, H p = none → Q (.ref p) (upd H p (.lst (kvs.map (·.2))))
def valsA : D → Option D
  | .dK kvs => some (.lst (kvs.map (·.2)))
  | .dT kvs => some (.lst (kvs.map (·.2)))
  | _ => none
def mDValA (m : M) : M := fun st => bindO (m st) fun d st1 => optO (valsA d) st1
section
variable {X : Cx} {g : G} {ER : EK} {e : Expr} {te : TE} {m : M} {p apos cpos pos : Pos}
theorem pe_dvalsT (calm : X.calm = true) (pe : PE X e te) (hg : Gl X "list") (hm : X.mg "list" = none) (hb : attributeBase e "values" X.env (eval e X.env) = eval e X.env := by rfl) (hl : (apos.endLine == cpos.line) = true := by rfl)
    (one : starEach [.Call (.Attribute e "values" apos) [] [] cpos] X.env = (false, eval (.Call (.Attribute e "values" apos) [] [] cpos) X.env) :: starEach [] X.env := by rfl) :
    PE X (.Call (.Name "list" p) [.Call (.Attribute e "values" apos) [] [] cpos] [] pos) (fun σ H Q => te σ H fun x H1 => rDValsT x H1 Q) := by
  refine ⟨fun pq s σ H Q I h => ?_⟩
  refine wpAny_Call_Name_kw (ld_blt I hg hm (by decide +kernel : bootBuiltins "list" = some (.type "list")) ?_)
  refine callWith_type1 ?_ one rfl
  rw [one]
  show wpAny _ _ (spliced ((false, eval (Expr.Call (.Attribute e "values" apos) [] [] cpos) X.env) :: backTo pos (starEach [] X.env))) _ _ s
  refine Calls.spliced_cons ?_
  refine wpAny_Call_method (id := "dict.values") (T := "dict") hb rfl hl F.plainAttrs_dict F.slot_dict_values F.type_dict_values (thn (pe.run pq s σ H _ I h) fun u s1 q => ?_)
  obtain ⟨x, H1, I1, rx, d, kvs, rfl, hd, k⟩ := q
  obtain rfl : u = Value.ref d := rx
  obtain ⟨small, notSys, xs, kt, dof⟩ := dt_rd I1.hok hd
  obtain ⟨es, ep, raw, sz, at'⟩ := dof.raw
  have same : kvs.length = xs.length := Paired.length kt
  refine ⟨raw.typeIs, fun a ea => ?_, ?_⟩
  · cases ea
    obtain ⟨o, h1, h2, _⟩ := raw
    exact ⟨o, h1, h2.2.1⟩
  show wpAny _ _ (callWith cpos (Value.builtin "dict.values") [.ref d] [] []) _ X.xe s1
  have I2 : Inv X pq σ H1 { s1 with heap := s1.heap.push { cls := .type "dict_values", data := .fields #[.ref d] } } := I1.kept (t' := s1.toks) fun _ _ z => Heap.get?_push_of_some _ z
  refine method_meetsIn F.slot_dict_values F.entry_dict_values rfl (PySem.evalArgs_none ⟨rfl, raw.typeIs, F.args_dict_values_1 _, _, meets_dict_values_raw d notSys, ⟨es, ep, raw⟩, ?_⟩)
  refine Calls.spliced_nil ?_
  refine PySem.W.kdl_call (KdlSrc.rawValues (es := es) (ep := ep)) (I1.ok.hd calm) ⟨⟨_, Heap.get?_push_size _ rfl, rfl, rfl⟩, raw.push _⟩ (by omega) fun h' tk acc c hk new items => ?_
  have ev : acc.toList = xs.map (·.2.2) := by
    refine List.ext_getElem? fun j => ?_
    have hl2 : acc.toList.length = xs.length := by rw [Array.length_toList, items.1, sz]
    by_cases lt : j < xs.length
    · obtain ⟨v, hv⟩ : ∃ v, acc.toList[j]? = some v := ⟨_, List.getElem?_eq_getElem (by omega)⟩
      obtain ⟨hi, rfl⟩ := items.2 j v (by rw [← Array.getElem?_toList]; exact hv)
      obtain ⟨y, e1, _, e2, _⟩ := at' j hi
      rw [hv, List.getElem?_map, e1, e2]
      rfl
    · rw [List.getElem?_eq_none (by omega), List.getElem?_eq_none (by rw [List.length_map]; omega)]
  refine ⟨.ref _, upd H1 _ (.lst (kvs.map (·.2))), I2.laid (t' := tk) hk (Nat.le_refl _) ?_, rfl, k _ (I2.hok.fresh (Nat.le_refl _))⟩
  refine (show ObjOk X.prog X.w _ _ _ (HO.lst (kvs.map (·.2))) from ⟨by rw [List.length_map]; exact small, acc.toList, c, by rw [ev]; exact kt_vals kt, ?_⟩)
  rw [Array.toArray_toList]
  exact new
theorem pe_mDValA (calm : X.calm = true) (pe : PE X e (tM g ER m)) (hg : Gl X "list") (hm : X.mg "list" = none) (hb : attributeBase e "values" X.env (eval e X.env) = eval e X.env := by rfl) (hl : (apos.endLine == cpos.line) = true := by rfl)
    (one : starEach [.Call (.Attribute e "values" apos) [] [] cpos] X.env = (false, eval (.Call (.Attribute e "values" apos) [] [] cpos) X.env) :: starEach [] X.env := by rfl) :
    PE X (.Call (.Name "list" p) [.Call (.Attribute e "values" apos) [] [] cpos] [] pos) (tM g ER (mDValA m)) := by
  refine PEi (PE.or (pe_dvals calm pe hg hm hb hl one) (pe_dvalsT calm pe hg hm hb hl one)) fun σ H Q h => ?_
  obtain ⟨ρ, st, s, h⟩ := h
  cases em : m st with
  | no => unfold mDValA at h; rw [em] at h; exact h.elim
  | er c vs st1 =>
    unfold mDValA at h
    rw [em] at h
    exact .inl ⟨ρ, st, s, by rw [em]; exact h⟩
  | ok d st1 =>
    unfold mDValA at h
    rw [em] at h
    cases d with
    | dK ds =>
      refine .inl ⟨ρ, st, s, ?_⟩
      rw [em]
      intro ρ1 H1 x1 s1 v rv
      cases rv with
      | dK ha na hl hk hv => exact ⟨_, _, rfl, ha, fresh_lst s1 (vals_of hl hv) fun ρ' H' u e' s' r' => h ρ' H' (x1.trans e') s' u r'⟩
    | dT ds =>
      refine .inr ⟨ρ, st, s, ?_⟩
      rw [em]
      intro ρ1 H1 x1 s1 v rv
      cases rv with
      | dT ha na hl hk hv => exact ⟨_, _, rfl, ha, fresh_lst s1 (vals_of hl hv) fun ρ' H' u e' s' r' => h ρ' H' (x1.trans e') s' u r'⟩
    | _ => exact h.elim
end
end RE
set_option maxHeartbeats 4000000
namespace RE
/-- alike modulo n -/
def Cg (n a b : Int) : Prop := n ∣ a - b
theorem Cg.refl (n a : Int) : Cg n a a := ⟨0, by omega⟩
theorem Cg.symm {n a b : Int} (h : Cg n a b) : Cg n b a := by
  obtain ⟨k, e⟩ := h
  exact ⟨-k, by rw [Int.mul_neg, ← e]; omega⟩
theorem Cg.trans {n a b c : Int} (h : Cg n a b) (k : Cg n b c) : Cg n a c := by
  obtain ⟨x, e⟩ := h
  obtain ⟨y, f⟩ := k
  exact ⟨x + y, by rw [Int.mul_add, ← e, ← f]; omega⟩
theorem Cg.add {n a b c d : Int} (h : Cg n a b) (k : Cg n c d) : Cg n (a + c) (b + d) := by
  obtain ⟨x, e⟩ := h
  obtain ⟨y, f⟩ := k
  exact ⟨x + y, by rw [Int.mul_add, ← e, ← f]; omega⟩
theorem Cg.mulL {n a b : Int} (c : Int) (h : Cg n a b) : Cg n (c * a) (c * b) := by
  obtain ⟨x, e⟩ := h
  exact ⟨c * x, by rw [← Int.mul_sub, e, Int.mul_left_comm]⟩
theorem Cg.mulR {n a b : Int} (c : Int) (h : Cg n a b) : Cg n (a * c) (b * c) := by
  rw [Int.mul_comm a c, Int.mul_comm b c]
  exact h.mulL c
theorem Cg.mod (n a : Int) : Cg n (a % n) a := ⟨-(a / n), by
  have := Int.emod_def a n
  rw [this, Int.mul_neg]
  omega⟩
theorem Cg.eq {n a b : Int} (h : Cg n a b) : a % n = b % n := by
  obtain ⟨k, e⟩ := h
  have : a = b + n * k := by omega
  rw [this, Int.add_mul_emod_self_left]
/-- what factors sum to along u, from t on -/
def lam (u : Nat → Int) (t : Nat) : List Int → Int
  | [] => 0
  | c :: cs => c * u t + lam u (t + 1) cs
theorem lam_append (u : Nat → Int) : ∀ (t : Nat) (p q : List Int), lam u t (p ++ q) = lam u t p + lam u (t + p.length) q
  | t, [], q => by simp [lam]
  | t, c :: p, q => by
    show c * u t + lam u (t + 1) (p ++ q) = c * u t + lam u (t + 1) p + lam u (t + (p.length + 1)) q
    rw [lam_append u (t + 1) p q, show t + 1 + p.length = t + (p.length + 1) by omega]
    omega
theorem lam_zero (u : Nat → Int) : ∀ (t m : Nat), lam u t (List.replicate m 0) = 0
  | t, 0 => rfl
  | t, m + 1 => by
    show 0 * u t + lam u (t + 1) (List.replicate m 0) = 0
    rw [lam_zero u (t + 1) m]
    omega
/-- c * q added at place k -/
def addAt : Nat → Int → List Int → List Int → List Int
  | _, _, _, [] => []
  | 0, _, [], f => f
  | 0, c, x :: q, y :: f => (y + c * x) :: addAt 0 c q f
  | k + 1, c, q, y :: f => y :: addAt k c q f
theorem addAt_len : ∀ (k : Nat) (c : Int) (q f : List Int), (addAt k c q f).length = f.length
  | 0, _, _, [] => by unfold addAt; rfl
  | _ + 1, _, _, [] => by unfold addAt; rfl
  | 0, _, [], y :: f => by unfold addAt; rfl
  | 0, c, x :: q, y :: f => by
    unfold addAt
    rw [List.length_cons, List.length_cons, addAt_len 0 c q f]
  | k + 1, c, q, y :: f => by
    unfold addAt
    rw [List.length_cons, List.length_cons, addAt_len k c q f]
theorem addAt_lam (u : Nat → Int) : ∀ (k : Nat) (c : Int) (q f : List Int) (t : Nat), k + q.length ≤ f.length → lam u t (addAt k c q f) = lam u t f + c * lam u (t + k) q
  | 0, c, [], [], t, h => by unfold addAt; simp [lam]
  | 0, c, x :: q, [], t, h => by simp at h
  | k + 1, c, q, [], t, h => by simp at h
  | 0, c, [], y :: f, t, h => by unfold addAt; simp [lam]
  | 0, c, x :: q, y :: f, t, h => by
    unfold addAt
    show (y + c * x) * u t + lam u (t + 1) (addAt 0 c q f) = y * u t + lam u (t + 1) f + c * (x * u (t + 0) + lam u (t + 0 + 1) q)
    rw [addAt_lam u 0 c q f (t + 1) (by simp only [List.length_cons] at h; omega), Int.add_mul, Int.mul_add, Int.mul_assoc]
    simp only [Nat.add_zero]
    omega
  | k + 1, c, q, y :: f, t, h => by
    unfold addAt
    show y * u t + lam u (t + 1) (addAt k c q f) = y * u t + lam u (t + 1) f + c * lam u (t + (k + 1)) q
    rw [addAt_lam u k c q f (t + 1) (by simp only [List.length_cons] at h; omega), show t + 1 + k = t + (k + 1) by omega]
    omega
/-- all products: p_i * q at place k + i -/
def convA : Nat → List Int → List Int → List Int → List Int
  | _, [], _, f => f
  | k, c :: p, q, f => convA (k + 1) p q (addAt k c q f)
theorem convA_len : ∀ (p q : List Int) (k : Nat) (f : List Int), (convA k p q f).length = f.length
  | [], q, k, f => rfl
  | c :: p, q, k, f => by
    show (convA (k + 1) p q (addAt k c q f)).length = _
    rw [convA_len p q (k + 1), addAt_len]
/-- sum of p_i * (u from t + k + i along q) -/
def lam2 (u : Nat → Int) (q : List Int) : Nat → List Int → Int
  | _, [] => 0
  | t, c :: p => c * lam u t q + lam2 u q (t + 1) p
theorem convA_lam (u : Nat → Int) (t : Nat) : ∀ (p q : List Int) (k : Nat) (f : List Int), k + p.length + q.length ≤ f.length + 1 → lam u t (convA k p q f) = lam u t f + lam2 u q (t + k) p
  | [], q, k, f, h => by
    show lam u t f = lam u t f + 0
    omega
  | c :: p, q, k, f, h => by
    show lam u t (convA (k + 1) p q (addAt k c q f)) = lam u t f + (c * lam u (t + k) q + lam2 u q (t + k + 1) p)
    simp only [List.length_cons] at h
    rw [convA_lam u t p q (k + 1) (addAt k c q f) (by rw [addAt_len]; omega), addAt_lam u k c q f t (by omega), show t + (k + 1) = t + k + 1 by omega]
    omega
/-- p stands for the a-th power: along u it sums to u (a + ..), modulo n -/
def Rep (u : Nat → Int) (n : Int) (p : List Int) (a : Nat) : Prop := ∀ t, Cg n (lam u t p) (u (a + t))
theorem rep_lam2 {u : Nat → Int} {n : Int} {q : List Int} {b : Nat} (hq : Rep u n q b) : ∀ (p : List Int) (t : Nat), Cg n (lam2 u q t p) (lam u (b + t) p)
  | [], t => Cg.refl n 0
  | c :: p, t => by
    show Cg n (c * lam u t q + lam2 u q (t + 1) p) (c * u (b + t) + lam u (b + t + 1) p)
    exact ((hq t).mulL c).add (rep_lam2 hq p (t + 1))
theorem Rep.conv {u : Nat → Int} {n : Int} {p q : List Int} {a b m : Nat} (hp : Rep u n p a) (hq : Rep u n q b) (hm : p.length + q.length ≤ m + 1) : Rep u n (convA 0 p q (List.replicate m 0)) (a + b) := fun t => by
  rw [convA_lam u t p q 0 _ (by rw [List.length_replicate]; omega), lam_zero, Int.zero_add, Nat.add_zero]
  refine (rep_lam2 hq p t).trans ?_
  rw [show a + b + t = a + (b + t) by omega]
  exact hp (b + t)
theorem Rep.one (u : Nat → Int) (n : Int) (m : Nat) : Rep u n (1 :: List.replicate m 0) 0 := fun t => by
  show Cg n (1 * u t + lam u (t + 1) (List.replicate m 0)) _
  rw [lam_zero, Int.one_mul, Int.add_zero, Nat.zero_add]
  exact Cg.refl _ _
theorem Rep.shift {u : Nat → Int} {n : Int} {p : List Int} {a : Nat} (h : Rep u n p a) : Rep u n (0 :: p) (a + 1) := fun t => by
  show Cg n (0 * u t + lam u (t + 1) p) _
  rw [Int.zero_mul, Int.zero_add, show a + 1 + t = a + (t + 1) by omega]
  exact h (t + 1)
def val (u : Nat → Int) (t : Nat) : List Int → Int
  | [] => 0
  | c :: cs => c * u (cs.length + t) + val u t cs
theorem val_lam (u : Nat → Int) (t : Nat) : ∀ p : List Int, val u t p = lam u t p.reverse
  | [] => rfl
  | c :: p => by
    rw [List.reverse_cons, lam_append, List.length_reverse, ← val_lam u t p]
    show c * u (p.length + t) + val u t p = val u t p + (c * u (t + p.length) + 0)
    rw [Nat.add_comm p.length t]
    omega
/-- parts_0 * u (m - 1 + t) + parts_1 * u (m - 2 + t) + .. -/
def fore (u : Nat → Int) (t : Nat) : List Int → Nat → Int
  | [], _ => 0
  | _ :: _, 0 => 0
  | c :: cs, m + 1 => c * u (m + t) + fore u t cs m
def md (o : Option Int) (x : Int) : Int := match o with
  | some n => x % n
  | none => x
theorem md_cg {n : Int} {o : Option Int} (ho : o = none ∨ o = some n) (x : Int) : Cg n (md o x) x := by
  rcases ho with rfl | rfl
  · exact Cg.refl _ _
  · exact Cg.mod _ _
/-- l * part added to the first ones -/
def addp (n : Option Int) : List Int → Int → List Int → List Int
  | [], _, r => r
  | _ :: _, _, [] => []
  | c :: cs, l, y :: r => md n (y + l * c) :: addp n cs l r
theorem addp_len (n : Option Int) : ∀ (ps : List Int) (l : Int) (r : List Int), (addp n ps l r).length = r.length
  | [], _, _ => rfl
  | _ :: _, _, [] => rfl
  | c :: cs, l, y :: r => by
    show (addp n cs l r).length + 1 = r.length + 1
    rw [addp_len n cs l r]
theorem addp_val (u : Nat → Int) (n : Int) (o : Option Int) (ho : o = none ∨ o = some n) (t : Nat) : ∀ (ps : List Int) (l : Int) (r : List Int), ps.length ≤ r.length → Cg n (val u t (addp o ps l r)) (val u t r + l * fore u t ps r.length)
  | [], l, r, h => by
    show Cg n (val u t r) (val u t r + l * 0)
    rw [Int.mul_zero, Int.add_zero]
    exact Cg.refl _ _
  | c :: cs, l, [], h => by simp at h
  | c :: cs, l, y :: r, h => by
    have ih := addp_val u n o ho t cs l r (by simpa using h)
    have e2 := ((md_cg ho (y + l * c)).mulR (u (r.length + t))).add ih
    show Cg n (md o (y + l * c) * u ((addp o cs l r).length + t) + val u t (addp o cs l r)) (y * u (r.length + t) + val u t r + l * (c * u (r.length + t) + fore u t cs r.length))
    rw [addp_len]
    refine e2.trans ?_
    rw [Int.add_mul, Int.mul_add, Int.mul_assoc]
    have : y * u (r.length + t) + l * (c * u (r.length + t)) + (val u t r + l * fore u t cs r.length) = y * u (r.length + t) + val u t r + (l * (c * u (r.length + t)) + l * fore u t cs r.length) := by omega
    rw [this]
    exact Cg.refl _ _
/-- u goes on by parts -/
def Goes (u : Nat → Int) (parts : List Int) : Prop := ∀ m, parts.length ≤ m → u m = fore u 0 parts m
theorem fore_shift (u : Nat → Int) (t : Nat) : ∀ (ps : List Int) (m : Nat), ps.length ≤ m → fore u t ps m = fore u 0 ps (m + t)
  | [], _, _ => rfl
  | c :: cs, 0, h => by simp at h
  | c :: cs, m + 1, h => by
    show c * u (m + t) + fore u t cs m = fore u 0 (c :: cs) (m + 1 + t)
    rw [show m + 1 + t = (m + t) + 1 by omega]
    show _ = c * u (m + t + 0) + fore u 0 cs (m + t)
    rw [fore_shift u t cs m (by simpa using h)]
    rfl
theorem strike_val {u : Nat → Int} {parts : List Int} (g : Goes u parts) (n : Int) (o : Option Int) (ho : o = none ∨ o = some n) (t : Nat) (l : Int) (r : List Int) (h : parts.length ≤ r.length) : Cg n (val u t (addp o parts l r)) (val u t (l :: r)) := by
  refine (addp_val u n o ho t parts l r h).trans ?_
  show Cg n _ (l * u (r.length + t) + val u t r)
  rw [fore_shift u t parts r.length h, ← g (r.length + t) (by omega)]
  rw [Int.add_comm]
  exact Cg.refl _ _
theorem Rep.strike {u : Nat → Int} {parts : List Int} (g : Goes u parts) {n : Int} {o : Option Int} (ho : o = none ∨ o = some n) {l : Int} {r : List Int} {a : Nat} (h : parts.length ≤ r.length) (hp : Rep u n (l :: r).reverse a) : Rep u n (addp o parts l r).reverse a := fun t => by
  rw [← val_lam]
  refine (strike_val g n o ho t l r h).trans ?_
  rw [val_lam]
  exact hp t
end RE
set_option maxHeartbeats 4000000
namespace RE
open PySem PySem.Spec PyProof.Rows L2
def divWD (a b : D) : Option D := match a, b with
  | .int i, .int j => if 0 < j ∧ j < 18446744073709551616 then some (.int (i / j)) else none
  | _, _ => none
theorem rop_divW {g : G} : ROp g (rI CDivW fun i j => .int (i / j)) divWD := by
  intro ρ σ st H x y dx dy d Q e s rx ry k
  unfold divWD at e
  split at e
  · rename_i i j
    split at e
    · rename_i hz
      exact ⟨i, j, rx.inv_int, ry.inv_int, wide_div (b := 64) hz.1 (by omega) (by decide) (by decide), k ρ H _ Ext.refl s (by rw [← Option.some.inj e]; exact .int _)⟩
    · cases e
  · cases e
theorem divW_at (i n : Int) (h : 0 < n) (h2 : n < 18446744073709551616) : divWD (.int i) (.int n) = some (.int (i / n)) := by
  show (if 0 < n ∧ n < 18446744073709551616 then some (D.int (i / n)) else none) = _
  rw [if_pos ⟨h, h2⟩]
def takeW : MS := (mSeq (mIf (mB (mBin gtD (mIxB 0 (mC (.int 0))) (mC (.int 0))))
    (mSeq (mAsg 2 (mBin modD (mFun intD (mCons (mIxB 0 (mC (.int 0))) mNil)) (mVarF 1)))
    (mSeq (mPutL 0 (mC (.int 0)) (mBin divWD (mIxB 0 (mC (.int 0))) (mVarF 1)))
    (mRet (mVarF 2))))
    mSkip)
    (mSeq (mPutL 0 (mC (.int 2)) (mBin addD (mIxB 0 (mC (.int 2))) (mC (.int 1))))
    (mSeq (mAsg 3 (mBin modD (mFun intD (mCons (mBin mulD (mBin addD (mIxB 0 (mC (.int 1))) (mBin mulD (mC (.int 48271)) (mIxB 0 (mC (.int 2))))) (mBin addD (mC (.int 39373)) (mIxB 0 (mC (.int 2))))) mNil)) (mC (.int 2147483647))))
    (mSeq (mAsg 4 (mBin addD (mBin modD (mFun intD (mCons (mVarF 3) mNil)) (mC (.int 40009))) (mC (.int 7))))
    (mSeq (mAsg 5 (mBin modD (mFun intD (mCons (mBin mulD (mBin addD (mBin addD (mVarF 3) (mIxB 0 (mC (.int 2)))) (mBin divD (mIxB 0 (mC (.int 1))) (mC (.int 1000003)))) (mVarF 4)) mNil)) (mC (.int 2147483629))))
    (mRet (mBin modD (mFun intD (mCons (mBin divD (mBin modD (mFun intD (mCons (mBin addD (mBin mulD (mVarF 5) (mC (.int 48271))) (mVarF 3)) mNil)) (mC (.int 2147483587))) (mC (.int 64))) mNil)) (mVarF 1))))))))
theorem takeW_at (n a b t : Int) (n0 : 0 < n) (n1 : n < 18446744073709551616) (t0 : 0 ≤ t) (t1 : t < 1000000) : ∃ v a' t' st, 0 ≤ v ∧ v < n ∧ 0 ≤ t' ∧ t' ≤ t + 1 ∧ takeW (S.start [.rf 0, .d (.int n)] 6 [.l [.int a, .int b, .int t]]) = .rt (.int v) st ∧ st.ce = [.l [.int a', .int b, .int t']] := by
  by_cases ha : 0 < a
  · have e0 : (mB (mBin gtD (mIxB 0 (mC (.int 0))) (mC (.int 0)))) (dS n .no .no .no .no a b t) = .ok true (dS n .no .no .no .no a b t) := b_at (bin_at rfl rfl (by show some (D.bl (decide (0 < a))) = _; rw [decide_eq_true ha]))
    have e1 : (mAsg 2 (mBin modD (mFun intD (mCons (mIxB 0 (mC (.int 0))) mNil)) (mVarF 1))) (dS n .no .no .no .no a b t) = .nx (dS n (.d (.int (a % n))) .no .no .no a b t) := asg_at (bin_at rfl rfl (mod_at a n n0))
    have e2 : (mPutL 0 (mC (.int 0)) (mBin divWD (mIxB 0 (mC (.int 0))) (mVarF 1))) (dS n (.d (.int (a % n))) .no .no .no a b t) = .nx (dS n (.d (.int (a % n))) .no .no .no (a / n) b t) := by
      unfold mPutL bindS
      rw [bin_at (f := divWD) (ma := mIxB 0 (mC (.int 0))) (mb := mVarF 1) (st := dS n (.d (.int (a % n))) .no .no .no a b t) rfl rfl (divW_at a n n0 n1)]
      rfl
    refine ⟨a % n, a / n, t, dS n (.d (.int (a % n))) .no .no .no (a / n) b t, Int.emod_nonneg _ (by omega), Int.emod_lt_of_pos _ n0, t0, by omega, ?_, rfl⟩
    show takeW (dS n .no .no .no .no a b t) = _
    unfold takeW
    refine seq_rt ?_
    rw [if_t e0, seq_at e1, seq_at e2]
    exact ret_at rfl
  · have e0 : (mB (mBin gtD (mIxB 0 (mC (.int 0))) (mC (.int 0)))) (dS n .no .no .no .no a b t) = .ok false (dS n .no .no .no .no a b t) := b_at (bin_at rfl rfl (by show some (D.bl (decide (0 < a))) = _; rw [decide_eq_false ha]))
    have e1 : (mPutL 0 (mC (.int 2)) (mBin addD (mIxB 0 (mC (.int 2))) (mC (.int 1)))) (dS n .no .no .no .no a b t) = .nx (dS n .no .no .no .no a b (t + 1)) := by
      unfold mPutL bindS
      rw [bin_at (f := addD) (ma := mIxB 0 (mC (.int 2))) (mb := mC (.int 1)) (st := dS n .no .no .no .no a b t) rfl rfl (d := .int (t + 1)) rfl]
      rfl
    generalize ht : t + 1 = u at e1
    have q1 : (mBin mulD (mBin addD (mIxB 0 (mC (.int 1))) (mBin mulD (mC (.int 48271)) (mIxB 0 (mC (.int 2))))) (mBin addD (mC (.int 39373)) (mIxB 0 (mC (.int 2))))) (dS n .no .no .no .no a b u) = .ok (.int ((b + 48271 * u) * (39373 + u))) (dS n .no .no .no .no a b u) :=
      bin_at (bin_at rfl (bin_at rfl rfl (mul_at 48271 u (small_at (by omega) (by omega)))) rfl) (bin_at rfl rfl rfl) (mul_at _ _ (small_at (by omega) (by omega)))
    generalize (b + 48271 * u) * (39373 + u) = m1 at q1
    have e2 : (mAsg 3 (mBin modD (mFun intD (mCons (mBin mulD (mBin addD (mIxB 0 (mC (.int 1))) (mBin mulD (mC (.int 48271)) (mIxB 0 (mC (.int 2))))) (mBin addD (mC (.int 39373)) (mIxB 0 (mC (.int 2))))) mNil)) (mC (.int 2147483647)))) (dS n .no .no .no .no a b u) = .nx (dS n .no (.d (.int (m1 % 2147483647))) .no .no a b u) :=
      asg_at (bin_at (fun_at (cons_at q1 rfl) rfl) rfl (mod_at m1 2147483647 (by decide)))
    generalize m1 % 2147483647 = x at e2
    have e3 : (mAsg 4 (mBin addD (mBin modD (mFun intD (mCons (mVarF 3) mNil)) (mC (.int 40009))) (mC (.int 7)))) (dS n .no (.d (.int x)) .no .no a b u) = .nx (dS n .no (.d (.int x)) (.d (.int (x % 40009 + 7))) .no a b u) :=
      asg_at (bin_at (bin_at rfl rfl (mod_at x 40009 (by decide))) rfl rfl)
    have hy : smallI (x % 40009 + 7) = true := small_at (by omega) (by omega)
    generalize x % 40009 + 7 = y at e3 hy
    have q4 : (mBin mulD (mBin addD (mBin addD (mVarF 3) (mIxB 0 (mC (.int 2)))) (mBin divD (mIxB 0 (mC (.int 1))) (mC (.int 1000003)))) (mVarF 4)) (dS n .no (.d (.int x)) (.d (.int y)) .no a b u) = .ok (.int ((x + u + b / 1000003) * y)) (dS n .no (.d (.int x)) (.d (.int y)) .no a b u) :=
      bin_at (bin_at (bin_at rfl rfl rfl) (bin_at rfl rfl (div_at b 1000003 (by decide) (by decide))) rfl) rfl (mul_at _ y hy)
    generalize (x + u + b / 1000003) * y = m2 at q4
    have e4 : (mAsg 5 (mBin modD (mFun intD (mCons (mBin mulD (mBin addD (mBin addD (mVarF 3) (mIxB 0 (mC (.int 2)))) (mBin divD (mIxB 0 (mC (.int 1))) (mC (.int 1000003)))) (mVarF 4)) mNil)) (mC (.int 2147483629)))) (dS n .no (.d (.int x)) (.d (.int y)) .no a b u) = .nx (dS n .no (.d (.int x)) (.d (.int y)) (.d (.int (m2 % 2147483629))) a b u) :=
      asg_at (bin_at (fun_at (cons_at q4 rfl) rfl) rfl (mod_at m2 2147483629 (by decide)))
    generalize m2 % 2147483629 = z at e4
    have q5 : (mBin divD (mBin modD (mFun intD (mCons (mBin addD (mBin mulD (mVarF 5) (mC (.int 48271))) (mVarF 3)) mNil)) (mC (.int 2147483587))) (mC (.int 64))) (dS n .no (.d (.int x)) (.d (.int y)) (.d (.int z)) a b u) = .ok (.int ((z * 48271 + x) % 2147483587 / 64)) (dS n .no (.d (.int x)) (.d (.int y)) (.d (.int z)) a b u) :=
      bin_at (bin_at (fun_at (cons_at (bin_at (bin_at rfl rfl (mul_at z 48271 (by decide))) rfl rfl) rfl) rfl) rfl (mod_at _ 2147483587 (by decide))) rfl (div_at _ 64 (by decide) (by decide))
    generalize (z * 48271 + x) % 2147483587 / 64 = m3 at q5
    refine ⟨m3 % n, a, u, dS n .no (.d (.int x)) (.d (.int y)) (.d (.int z)) a b u, Int.emod_nonneg _ (by omega), Int.emod_lt_of_pos _ n0, by omega, by omega, ?_, rfl⟩
    show takeW (dS n .no .no .no .no a b t) = _
    unfold takeW
    rw [seq_at (if_n e0), seq_at e1, seq_at e2, seq_at e3, seq_at e4]
    exact ret_at (bin_at (fun_at (cons_at q5 rfl) rfl) rfl (mod_at m3 n n0))
theorem takeW_rnR (n : Int) (n0 : 0 < n) (n1 : n < 18446744073709551616) : RnR takeW 6 [.int n] 1 fun d => ∃ v, d = .int v ∧ 0 ≤ v ∧ v < n := fun a b t t0 t1 => by
  obtain ⟨v, a', t', st', h1, h2, h3, h4, e3, e4⟩ := takeW_at n a b t n0 n1 t0 (by omega)
  exact ⟨_, a', t', st', ⟨v, rfl, h1, h2⟩, h3, h4, e3, by rw [e4]; rfl⟩
end RE
set_option maxHeartbeats 2000000
namespace RE.K28
open PySem PySem.Spec PyProof.Rows L2 RE
def topS (i : Nat) : Stmt := PySem.Challenge.pw_tatamirooms_k28_whole_long_corridors_and.main.body.getD i (.Pass ⟨0, 0, 0, 0⟩)
abbrev s_is_number : Stmt := topS 4
abbrev N_is_number : List Str := ["value"]
abbrev P_is_number : List Str := ["value"]
theorem sc_is_number : FnScope N_is_number P_is_number (defScope s_is_number) := ⟨rfl, rfl, rfl, by decide +kernel, rfl, by decide +kernel, by decide +kernel⟩
abbrev s_needed : Stmt := topS 5
abbrev N_needed : List Str := ["plain"]
abbrev P_needed : List Str := ["plain"]
theorem sc_needed : FnScope N_needed P_needed (defScope s_needed) := ⟨rfl, rfl, rfl, by decide +kernel, rfl, by decide +kernel, by decide +kernel⟩
abbrev s_plain_number : Stmt := topS 6
abbrev N_plain_number : List Str := ["value", "least", "most"]
abbrev P_plain_number : List Str := ["value", "least", "most"]
theorem sc_plain_number : FnScope N_plain_number P_plain_number (defScope s_plain_number) := ⟨rfl, rfl, rfl, by decide +kernel, rfl, by decide +kernel, by decide +kernel⟩
abbrev s_need_from : Stmt := topS 7
abbrev N_need_from : List Str := ["value", "least"]
abbrev P_need_from : List Str := ["value", "least"]
theorem sc_need_from : FnScope N_need_from P_need_from (defScope s_need_from) := ⟨rfl, rfl, rfl, by decide +kernel, rfl, by decide +kernel, by decide +kernel⟩
abbrev s_check_high : Stmt := topS 13
abbrev N_check_high : List Str := ["high"]
abbrev P_check_high : List Str := ["high"]
theorem sc_check_high : FnScope N_check_high P_check_high (defScope s_check_high) := ⟨rfl, rfl, rfl, by decide +kernel, rfl, by decide +kernel, by decide +kernel⟩
abbrev s_check_corridor : Stmt := topS 14
abbrev N_check_corridor : List Str := ["high", "wide", "widest"]
abbrev P_check_corridor : List Str := ["high", "wide", "widest"]
theorem sc_check_corridor : FnScope N_check_corridor P_check_corridor (defScope s_check_corridor) := ⟨rfl, rfl, rfl, by decide +kernel, rfl, by decide +kernel, by decide +kernel⟩
abbrev s_need_corridor : Stmt := topS 15
abbrev N_need_corridor : List Str := ["high", "wide", "widest"]
abbrev P_need_corridor : List Str := ["high", "wide", "widest"]
theorem sc_need_corridor : FnScope N_need_corridor P_need_corridor (defScope s_need_corridor) := ⟨rfl, rfl, rfl, by decide +kernel, rfl, by decide +kernel, by decide +kernel⟩
abbrev s_reduced : Stmt := topS 16
abbrev N_reduced : List Str := ["terms", "parts", "number", "last", "at", "part"]
abbrev P_reduced : List Str := ["terms", "parts", "number"]
theorem sc_reduced : FnScope N_reduced P_reduced (defScope s_reduced) := ⟨rfl, rfl, rfl, by decide +kernel, rfl, by decide +kernel, by decide +kernel⟩
abbrev s_times : Stmt := topS 17
abbrev N_times : List Str := ["terms", "parts", "number", "found", "at", "one", "place", "other"]
abbrev P_times : List Str := ["terms", "parts", "number"]
theorem sc_times : FnScope N_times P_times (defScope s_times) := ⟨rfl, rfl, rfl, by decide +kernel, rfl, by decide +kernel, by decide +kernel⟩
abbrev s_power : Stmt := topS 18
abbrev N_power : List Str := ["far", "parts", "number", "found", "place"]
abbrev P_power : List Str := ["far", "parts", "number"]
theorem sc_power : FnScope N_power P_power (defScope s_power) := ⟨rfl, rfl, rfl, by decide +kernel, rfl, by decide +kernel, by decide +kernel⟩
abbrev s_corridor_count : Stmt := topS 19
abbrev N_corridor_count : List Str := ["high", "wide", "parts", "counts", "newest", "part", "count"]
abbrev P_corridor_count : List Str := ["high", "wide"]
theorem sc_corridor_count : FnScope N_corridor_count P_corridor_count (defScope s_corridor_count) := ⟨rfl, rfl, rfl, by decide +kernel, rfl, by decide +kernel, by decide +kernel⟩
abbrev s_corridor_rest : Stmt := topS 20
abbrev N_corridor_rest : List Str := ["high", "wide", "number", "parts", "counts", "newest", "terms", "term", "count"]
abbrev P_corridor_rest : List Str := ["high", "wide", "number"]
theorem sc_corridor_rest : FnScope N_corridor_rest P_corridor_rest (defScope s_corridor_rest) := ⟨rfl, rfl, rfl, by decide +kernel, rfl, by decide +kernel, by decide +kernel⟩
abbrev s_corridor_rule : Stmt := topS 21
abbrev N_corridor_rule : List Str := ["high"]
abbrev P_corridor_rule : List Str := ["high"]
theorem sc_corridor_rule : FnScope N_corridor_rule P_corridor_rule (defScope s_corridor_rule) := ⟨rfl, rfl, rfl, by decide +kernel, rfl, by decide +kernel, by decide +kernel⟩
abbrev s__law_box : Stmt := topS 23
abbrev N__law_box : List Str := ["script", "k", "bit_so"]
abbrev P__law_box : List Str := ["script", "k"]
theorem sc__law_box : FnScope N__law_box P__law_box (defScope s__law_box) := ⟨rfl, rfl, rfl, by decide +kernel, rfl, by decide +kernel, by decide +kernel⟩
abbrev s__law_take : Stmt := topS 24
abbrev N__law_take : List Str := ["tin", "below_so", "drawn_so", "once_so", "wide_so", "twice_so"]
abbrev P__law_take : List Str := ["tin", "below_so"]
theorem sc__law_take : FnScope N__law_take P__law_take (defScope s__law_take) := ⟨rfl, rfl, rfl, by decide +kernel, rfl, by decide +kernel, by decide +kernel⟩
abbrev s__law_cells : Stmt := topS 25
abbrev N__law_cells : List Str := ["script", "most_so", "cells_so", "k", "bit_so", "at_so"]
abbrev P__law_cells : List Str := ["script", "most_so"]
theorem sc__law_cells : FnScope N__law_cells P__law_cells (defScope s__law_cells) := ⟨rfl, rfl, rfl, by decide +kernel, rfl, by decide +kernel, by decide +kernel⟩
abbrev s__law_same : Stmt := topS 26
abbrev N__law_same : List Str := ["got", "due", "mine", "its"]
abbrev P__law_same : List Str := ["got", "due"]
theorem sc__law_same : FnScope N__law_same P__law_same (defScope s__law_same) := ⟨rfl, rfl, rfl, by decide +kernel, rfl, by decide +kernel, by decide +kernel⟩
abbrev s__law_over : Stmt := topS 27
abbrev N__law_over : List Str := ["spot", "kind_so", "step_so"]
abbrev P__law_over : List Str := ["spot", "kind_so"]
theorem sc__law_over : FnScope N__law_over P__law_over (defScope s__law_over) := ⟨rfl, rfl, rfl, by decide +kernel, rfl, by decide +kernel, by decide +kernel⟩
abbrev s__law_plan : Stmt := topS 28
abbrev N__law_plan : List Str := ["ground", "number_so", "needs_so", "x", "y", "near_so", "last_so", "k", "row_so", "own", "found", "kept_so", "spot", "places_so", "later_so", "moved_so"]
abbrev P__law_plan : List Str := ["ground"]
theorem sc__law_plan : FnScope N__law_plan P__law_plan (defScope s__law_plan) := ⟨rfl, rfl, rfl, by decide +kernel, rfl, by decide +kernel, by decide +kernel⟩
abbrev s__law_kinds_next : Stmt := topS 29
abbrev N__law_kinds_next : List Str := ["step_so", "state_so", "let_so", "near_so", "west_so", "north_so", "corner_so", "below_so", "found", "own"]
abbrev P__law_kinds_next : List Str := ["step_so", "state_so", "let_so"]
theorem sc__law_kinds_next : FnScope N__law_kinds_next P__law_kinds_next (defScope s__law_kinds_next) := ⟨rfl, rfl, rfl, by decide +kernel, rfl, by decide +kernel, by decide +kernel⟩
abbrev s__law_moved_on : Stmt := topS 30
abbrev N__law_moved_on : List Str := ["step_so", "state_so", "kind_so", "mine_so", "own"]
abbrev P__law_moved_on : List Str := ["step_so", "state_so", "kind_so"]
theorem sc__law_moved_on : FnScope N__law_moved_on P__law_moved_on (defScope s__law_moved_on) := ⟨rfl, rfl, rfl, by decide +kernel, rfl, by decide +kernel, by decide +kernel⟩
abbrev s__law_lets_of : Stmt := topS 31
abbrev N__law_lets_of : List Str := ["ground", "lets_so", "told_so", "own"]
abbrev P__law_lets_of : List Str := ["ground", "lets_so"]
theorem sc__law_lets_of : FnScope N__law_lets_of P__law_lets_of (defScope s__law_lets_of) := ⟨rfl, rfl, rfl, by decide +kernel, rfl, by decide +kernel, by decide +kernel⟩
abbrev s__law_layers : Stmt := topS 32
abbrev N__law_layers : List Str := ["ground", "lets_so", "let_so", "found", "k", "step_so", "later_so", "state_so", "many_so", "kind_so", "key_so"]
abbrev P__law_layers : List Str := ["ground", "lets_so"]
theorem sc__law_layers : FnScope N__law_layers P__law_layers (defScope s__law_layers) := ⟨rfl, rfl, rfl, by decide +kernel, rfl, by decide +kernel, by decide +kernel⟩
abbrev s__law_many : Stmt := topS 33
abbrev N__law_many : List Str := ["ground", "lets_so"]
abbrev P__law_many : List Str := ["ground", "lets_so"]
theorem sc__law_many : FnScope N__law_many P__law_many (defScope s__law_many) := ⟨rfl, rfl, rfl, by decide +kernel, rfl, by decide +kernel, by decide +kernel⟩
abbrev s__law_boxed : Stmt := topS 34
abbrev N__law_boxed : List Str := ["high_so", "wide_so", "found", "x", "y"]
abbrev P__law_boxed : List Str := ["high_so", "wide_so"]
theorem sc__law_boxed : FnScope N__law_boxed P__law_boxed (defScope s__law_boxed) := ⟨rfl, rfl, rfl, by decide +kernel, rfl, by decide +kernel, by decide +kernel⟩
abbrev s__law_rule_of : Stmt := topS 35
abbrev N__law_rule_of : List Str := ["high_so", "firsts_so"]
abbrev P__law_rule_of : List Str := ["high_so"]
theorem sc__law_rule_of : FnScope N__law_rule_of P__law_rule_of (defScope s__law_rule_of) := ⟨rfl, rfl, rfl, by decide +kernel, rfl, by decide +kernel, by decide +kernel⟩
abbrev s__law_counted_on : Stmt := topS 36
abbrev N__law_counted_on : List Str := ["high_so", "wide_so", "begin_so", "parts_so", "firsts_so", "found", "lap", "k", "part"]
abbrev P__law_counted_on : List Str := ["high_so", "wide_so"]
theorem sc__law_counted_on : FnScope N__law_counted_on P__law_counted_on (defScope s__law_counted_on) := ⟨rfl, rfl, rfl, by decide +kernel, rfl, by decide +kernel, by decide +kernel⟩
abbrev s__law_times : Stmt := topS 37
abbrev N__law_times : List Str := ["one", "two", "parts_so", "number_so", "size_so", "found", "i", "x", "j", "y", "part", "own"]
abbrev P__law_times : List Str := ["one", "two", "parts_so", "number_so"]
theorem sc__law_times : FnScope N__law_times P__law_times (defScope s__law_times) := ⟨rfl, rfl, rfl, by decide +kernel, rfl, by decide +kernel, by decide +kernel⟩
abbrev s__law_rest_of : Stmt := topS 38
abbrev N__law_rest_of : List Str := ["high_so", "wide_so", "number_so", "begin_so", "parts_so", "firsts_so", "size_so", "bits_so", "left_so", "found", "bit_so", "row_so", "factor", "own"]
abbrev P__law_rest_of : List Str := ["high_so", "wide_so", "number_so"]
theorem sc__law_rest_of : FnScope N__law_rest_of P__law_rest_of (defScope s__law_rest_of) := ⟨rfl, rfl, rfl, by decide +kernel, rfl, by decide +kernel, by decide +kernel⟩
abbrev s__law_by_hand_right : Stmt := topS 39
abbrev N__law_by_hand_right : List Str := ["got", "due", "own"]
abbrev P__law_by_hand_right : List Str := []
theorem sc__law_by_hand_right : FnScope N__law_by_hand_right P__law_by_hand_right (defScope s__law_by_hand_right) := ⟨rfl, rfl, rfl, by decide +kernel, rfl, by decide +kernel, by decide +kernel⟩
abbrev s__law_right : Stmt := topS 40
abbrev N__law_right : List Str := ["tin", "high_so", "rule_so", "wide_so", "got", "due", "number_so", "far_so", "near_so"]
abbrev P__law_right : List Str := ["tin"]
theorem sc__law_right : FnScope N__law_right P__law_right (defScope s__law_right) := ⟨rfl, rfl, rfl, by decide +kernel, rfl, by decide +kernel, by decide +kernel⟩
abbrev s__law_five_right : Stmt := topS 41
abbrev N__law_five_right : List Str := ["tin", "rule_so", "wide_so", "kind_so", "far_so"]
abbrev P__law_five_right : List Str := ["tin"]
theorem sc__law_five_right : FnScope N__law_five_right P__law_five_right (defScope s__law_five_right) := ⟨rfl, rfl, rfl, by decide +kernel, rfl, by decide +kernel, by decide +kernel⟩
abbrev s_law : Stmt := topS 42
abbrev N_law : List Str := ["script", "tin"]
abbrev P_law : List Str := ["script"]
theorem sc_law : FnScope N_law P_law (defScope s_law) := ⟨rfl, rfl, rfl, by decide +kernel, rfl, by decide +kernel, by decide +kernel⟩
abbrev si_TooMany : Stmt := match topS 1 with
  | .ClassDef (body := b) .. => b.getD 0 (.Pass ⟨0, 0, 0, 0⟩)
  | s => s
theorem sc_i_TooMany : FnScope ["self"] ["self"] (defScope si_TooMany) := ⟨rfl, rfl, rfl, by decide +kernel, rfl, by decide +kernel, by decide +kernel⟩
abbrev si_Unfit : Stmt := match topS 2 with
  | .ClassDef (body := b) .. => b.getD 0 (.Pass ⟨0, 0, 0, 0⟩)
  | s => s
theorem sc_i_Unfit : FnScope ["self"] ["self"] (defScope si_Unfit) := ⟨rfl, rfl, rfl, by decide +kernel, rfl, by decide +kernel, by decide +kernel⟩
/-- what the top has written -/
structure Tx (mg : Str → Option Value) (g : G) (fd : Nat → FuncData) (iA : Nat → Addr) (iF : Nat → FuncData) : Prop where
  F_is_number : Fun g.K "is_number" "is_number" s_is_number (g.F 0) (fd 0)
  b_is_number : Binds g.K (fd 0) P_is_number []
  m_is_number : mg "is_number" = some (.ref (g.F 0))
  F_needed : Fun g.K "needed" "needed" s_needed (g.F 1) (fd 1)
  b_needed : Binds g.K (fd 1) P_needed []
  m_needed : mg "needed" = some (.ref (g.F 1))
  F_plain_number : FunD g.K "plain_number" "plain_number" (defArgs s_plain_number) (defBody s_plain_number) (defScope s_plain_number) [V.non] [] (g.F 2) (fd 2)
  b_plain_number_0 : ∃ ds, Vals ([V.non].drop 0) ds ∧ Binds g.K (fd 2) P_plain_number ds
  b_plain_number_1 : ∃ ds, Vals ([V.non].drop 1) ds ∧ Binds g.K (fd 2) P_plain_number ds
  m_plain_number : mg "plain_number" = some (.ref (g.F 2))
  F_need_from : Fun g.K "need_from" "need_from" s_need_from (g.F 3) (fd 3)
  b_need_from : Binds g.K (fd 3) P_need_from []
  m_need_from : mg "need_from" = some (.ref (g.F 3))
  F_check_high : Fun g.K "check_high" "check_high" s_check_high (g.F 4) (fd 4)
  b_check_high : Binds g.K (fd 4) P_check_high []
  m_check_high : mg "check_high" = some (.ref (g.F 4))
  F_check_corridor : Fun g.K "check_corridor" "check_corridor" s_check_corridor (g.F 5) (fd 5)
  b_check_corridor : Binds g.K (fd 5) P_check_corridor []
  m_check_corridor : mg "check_corridor" = some (.ref (g.F 5))
  F_need_corridor : Fun g.K "need_corridor" "need_corridor" s_need_corridor (g.F 6) (fd 6)
  b_need_corridor : Binds g.K (fd 6) P_need_corridor []
  m_need_corridor : mg "need_corridor" = some (.ref (g.F 6))
  F_reduced : Fun g.K "reduced" "reduced" s_reduced (g.F 7) (fd 7)
  b_reduced : Binds g.K (fd 7) P_reduced []
  m_reduced : mg "reduced" = some (.ref (g.F 7))
  F_times : Fun g.K "times" "times" s_times (g.F 8) (fd 8)
  b_times : Binds g.K (fd 8) P_times []
  m_times : mg "times" = some (.ref (g.F 8))
  F_power : Fun g.K "power" "power" s_power (g.F 9) (fd 9)
  b_power : Binds g.K (fd 9) P_power []
  m_power : mg "power" = some (.ref (g.F 9))
  w_corridor_count_0 : KwOk g.K (fd 10) P_corridor_count ["wide", "high"] [1, 0]
  F_corridor_count : Fun g.K "corridor_count" "corridor_count" s_corridor_count (g.F 10) (fd 10)
  b_corridor_count : Binds g.K (fd 10) P_corridor_count []
  m_corridor_count : mg "corridor_count" = some (.ref (g.F 10))
  w_corridor_rest_0 : KwOk g.K (fd 11) P_corridor_rest ["number", "wide", "high"] [2, 1, 0]
  F_corridor_rest : Fun g.K "corridor_rest" "corridor_rest" s_corridor_rest (g.F 11) (fd 11)
  b_corridor_rest : Binds g.K (fd 11) P_corridor_rest []
  m_corridor_rest : mg "corridor_rest" = some (.ref (g.F 11))
  w_corridor_rule_0 : KwOk g.K (fd 12) P_corridor_rule ["high"] [0]
  F_corridor_rule : Fun g.K "corridor_rule" "corridor_rule" s_corridor_rule (g.F 12) (fd 12)
  b_corridor_rule : Binds g.K (fd 12) P_corridor_rule []
  m_corridor_rule : mg "corridor_rule" = some (.ref (g.F 12))
  F__law_box : Fun g.K "_law_box" "_law_box" s__law_box (g.F 13) (fd 13)
  b__law_box : Binds g.K (fd 13) P__law_box []
  m__law_box : mg "_law_box" = some (.ref (g.F 13))
  F__law_take : Fun g.K "_law_take" "_law_take" s__law_take (g.F 14) (fd 14)
  b__law_take : Binds g.K (fd 14) P__law_take []
  m__law_take : mg "_law_take" = some (.ref (g.F 14))
  F__law_cells : Fun g.K "_law_cells" "_law_cells" s__law_cells (g.F 15) (fd 15)
  b__law_cells : Binds g.K (fd 15) P__law_cells []
  m__law_cells : mg "_law_cells" = some (.ref (g.F 15))
  F__law_same : Fun g.K "_law_same" "_law_same" s__law_same (g.F 16) (fd 16)
  b__law_same : Binds g.K (fd 16) P__law_same []
  m__law_same : mg "_law_same" = some (.ref (g.F 16))
  F__law_over : Fun g.K "_law_over" "_law_over" s__law_over (g.F 17) (fd 17)
  b__law_over : Binds g.K (fd 17) P__law_over []
  m__law_over : mg "_law_over" = some (.ref (g.F 17))
  F__law_plan : Fun g.K "_law_plan" "_law_plan" s__law_plan (g.F 18) (fd 18)
  b__law_plan : Binds g.K (fd 18) P__law_plan []
  m__law_plan : mg "_law_plan" = some (.ref (g.F 18))
  F__law_kinds_next : Fun g.K "_law_kinds_next" "_law_kinds_next" s__law_kinds_next (g.F 19) (fd 19)
  b__law_kinds_next : Binds g.K (fd 19) P__law_kinds_next []
  m__law_kinds_next : mg "_law_kinds_next" = some (.ref (g.F 19))
  F__law_moved_on : Fun g.K "_law_moved_on" "_law_moved_on" s__law_moved_on (g.F 20) (fd 20)
  b__law_moved_on : Binds g.K (fd 20) P__law_moved_on []
  m__law_moved_on : mg "_law_moved_on" = some (.ref (g.F 20))
  F__law_lets_of : Fun g.K "_law_lets_of" "_law_lets_of" s__law_lets_of (g.F 21) (fd 21)
  b__law_lets_of : Binds g.K (fd 21) P__law_lets_of []
  m__law_lets_of : mg "_law_lets_of" = some (.ref (g.F 21))
  F__law_layers : Fun g.K "_law_layers" "_law_layers" s__law_layers (g.F 22) (fd 22)
  b__law_layers : Binds g.K (fd 22) P__law_layers []
  m__law_layers : mg "_law_layers" = some (.ref (g.F 22))
  F__law_many : Fun g.K "_law_many" "_law_many" s__law_many (g.F 23) (fd 23)
  b__law_many : Binds g.K (fd 23) P__law_many []
  m__law_many : mg "_law_many" = some (.ref (g.F 23))
  F__law_boxed : Fun g.K "_law_boxed" "_law_boxed" s__law_boxed (g.F 24) (fd 24)
  b__law_boxed : Binds g.K (fd 24) P__law_boxed []
  m__law_boxed : mg "_law_boxed" = some (.ref (g.F 24))
  F__law_rule_of : Fun g.K "_law_rule_of" "_law_rule_of" s__law_rule_of (g.F 25) (fd 25)
  b__law_rule_of : Binds g.K (fd 25) P__law_rule_of []
  m__law_rule_of : mg "_law_rule_of" = some (.ref (g.F 25))
  F__law_counted_on : Fun g.K "_law_counted_on" "_law_counted_on" s__law_counted_on (g.F 26) (fd 26)
  b__law_counted_on : Binds g.K (fd 26) P__law_counted_on []
  m__law_counted_on : mg "_law_counted_on" = some (.ref (g.F 26))
  F__law_times : Fun g.K "_law_times" "_law_times" s__law_times (g.F 27) (fd 27)
  b__law_times : Binds g.K (fd 27) P__law_times []
  m__law_times : mg "_law_times" = some (.ref (g.F 27))
  F__law_rest_of : Fun g.K "_law_rest_of" "_law_rest_of" s__law_rest_of (g.F 28) (fd 28)
  b__law_rest_of : Binds g.K (fd 28) P__law_rest_of []
  m__law_rest_of : mg "_law_rest_of" = some (.ref (g.F 28))
  F__law_by_hand_right : Fun g.K "_law_by_hand_right" "_law_by_hand_right" s__law_by_hand_right (g.F 29) (fd 29)
  b__law_by_hand_right : Binds g.K (fd 29) P__law_by_hand_right []
  m__law_by_hand_right : mg "_law_by_hand_right" = some (.ref (g.F 29))
  F__law_right : Fun g.K "_law_right" "_law_right" s__law_right (g.F 30) (fd 30)
  b__law_right : Binds g.K (fd 30) P__law_right []
  m__law_right : mg "_law_right" = some (.ref (g.F 30))
  F__law_five_right : Fun g.K "_law_five_right" "_law_five_right" s__law_five_right (g.F 31) (fd 31)
  b__law_five_right : Binds g.K (fd 31) P__law_five_right []
  m__law_five_right : mg "_law_five_right" = some (.ref (g.F 31))
  F_law : Fun g.K "law" "law" s_law (g.F 32) (fd 32)
  b_law : Binds g.K (fd 32) P_law []
  m_law : mg "law" = some (.ref (g.F 32))
  E_TooMany : ErrC g.K (g.C 0) "ValueError.__new__" [.type "ValueError", .type "Exception", .type "BaseException", .type "object"]
  n_TooMany : mg "TooMany" = some (.ref (g.C 0))
  i_TooMany : PySem.W.findIn g.K (.ref (g.C 0)) "__init__" = some (some (.ref (iA 0)))
  j_TooMany : PySem.W.typeIn g.K (.ref (iA 0)) = some (.type "function")
  I_TooMany : Fun g.K "__init__" "TooMany.__init__" si_TooMany (iA 0) (iF 0)
  B_TooMany : Binds g.K (iF 0) ["self"] []
  S_TooMany : SuC g.K (g.C 0)
  f_TooMany : g.fld 0 = ([] : List Str)
  x_0_0 : PySem.W.exmOne g.K (.ref (g.C 0)) (.ref (g.C 0)) = some true
  x_0_1 : PySem.W.exmOne g.K (.ref (g.C 0)) (.ref (g.C 1)) = some false
  E_Unfit : ErrC g.K (g.C 1) "ValueError.__new__" [.type "ValueError", .type "Exception", .type "BaseException", .type "object"]
  n_Unfit : mg "Unfit" = some (.ref (g.C 1))
  i_Unfit : PySem.W.findIn g.K (.ref (g.C 1)) "__init__" = some (some (.ref (iA 1)))
  j_Unfit : PySem.W.typeIn g.K (.ref (iA 1)) = some (.type "function")
  I_Unfit : Fun g.K "__init__" "Unfit.__init__" si_Unfit (iA 1) (iF 1)
  B_Unfit : Binds g.K (iF 1) ["self"] []
  S_Unfit : SuC g.K (g.C 1)
  f_Unfit : g.fld 1 = ([] : List Str)
  x_1_0 : PySem.W.exmOne g.K (.ref (g.C 1)) (.ref (g.C 0)) = some false
  x_1_1 : PySem.W.exmOne g.K (.ref (g.C 1)) (.ref (g.C 1)) = some true
  v_ValueError : PySem.W.findCls g.K (.type "ValueError") (.type "type") "__init__" = some (.val (.builtin "ValueError.__init__"))
  z_ValueError : mg "ValueError" = none
  z_abs : mg "abs" = none
  z_all : mg "all" = none
  z_bool : mg "bool" = none
  z_dict : mg "dict" = none
  z_enumerate : mg "enumerate" = none
  z_int : mg "int" = none
  z_isinstance : mg "isinstance" = none
  z_len : mg "len" = none
  z_list : mg "list" = none
  z_range : mg "range" = none
  z_reversed : mg "reversed" = none
  z_str : mg "str" = none
  z_sum : mg "sum" = none
  z_tuple : mg "tuple" = none
  z_zip : mg "zip" = none
  c_HIGHEST : ∃ t, mg "HIGHEST" = some (.int 5 t)
  c_WIDEST_COUNT : ∃ t, mg "WIDEST_COUNT" = some (.int 2000 t)
  c_PARTS : ∃ a, mg "PARTS" = some (.ref a) ∧ ∀ A H, Rp g A H (.ref a) (.kt [(.kt [(.int 1), (.int 1)]), (.kt [(.int 2), (.int 0), (.int 2), (.int (-1))]), (.kt [(.int 1), (.int 2), (.int 0), (.int 2), (.int (-1)), (.int (-1))]), (.kt [(.int 1), (.int 1), (.int 1), (.int (-1)), (.int 7), (.int (-7)), (.int 1), (.int (-1)), (.int (-1)), (.int (-1)), (.int 1)]), (.kt [(.int 1), (.int 1), (.int (-1)), (.int 3), (.int (-1)), (.int 5), (.int (-2)), (.int (-5)), (.int (-1)), (.int (-3)), (.int (-1)), (.int (-1)), (.int 1), (.int 1)])])
  c_FIRST_COUNTS : ∃ a, mg "FIRST_COUNTS" = some (.ref a) ∧ ∀ A H, Rp g A H (.ref a) (.kt [(.kt [(.int 1), (.int 2)]), (.kt [(.int 2), (.int 6), (.int 13), (.int 29)]), (.kt [(.int 3), (.int 13), (.int 22), (.int 44), (.int 90), (.int 196), (.int 406), (.int 852)]), (.kt [(.int 5), (.int 29), (.int 44), (.int 66), (.int 126), (.int 238), (.int 490), (.int 922), (.int 1714), (.int 3306), (.int 6246), (.int 12102), (.int 22994), (.int 43682)]), (.kt [(.int 8), (.int 68), (.int 90), (.int 126), (.int 178), (.int 325), (.int 584), (.int 1165), (.int 2030), (.int 3619), (.int 6080), (.int 10987), (.int 19362), (.int 35477), (.int 62360), (.int 111837), (.int 195614), (.int 350707)])])
section
variable {P : Program} {w : World} {mg : Str → Option Value} {base : Heap} {g : G} {fd : Nat → FuncData} {iA : Nat → Addr} {iF : Nat → FuncData}
theorem ok_init_TooMany (T : Tx mg g fd iA iF) : FnOk P w g.K mg base (L2.CX P w) 1 (iA 0) (iF 0) ["self"] (spIni0 g.K "ValueError.__new__" [.type "ValueError", .type "Exception", .type "BaseException", .type "object"]) :=
  okIni0 T.I_TooMany sc_i_TooMany fun cdv A outer s H E hr => pss_one (ps_expr (pe_errI base_VE (by rfl) T.z_ValueError (by decide +kernel) T.v_ValueError (by decide +kernel) (by decide +kernel) (pa_cons (pv 0) pa_nil)))
theorem ok_init_Unfit (T : Tx mg g fd iA iF) : FnOk P w g.K mg base (L2.CX P w) 1 (iA 1) (iF 1) ["self"] (spIni0 g.K "ValueError.__new__" [.type "ValueError", .type "Exception", .type "BaseException", .type "object"]) :=
  okIni0 T.I_Unfit sc_i_Unfit fun cdv A outer s H E hr => pss_one (ps_expr (pe_errI base_VE (by rfl) T.z_ValueError (by decide +kernel) T.v_ValueError (by decide +kernel) (by decide +kernel) (pa_cons (pv 0) pa_nil)))
def m_is_number : MS := (mRet (mAnd (mIsa .int (mVarF 0)) (mNot (mIsa .bool (mVarF 0)))))
theorem ok_is_number (T : Tx mg g fd iA iF) : FnOk P w g.K mg base (L2.CX P w) 1 (g.F 0) (fd 0) P_is_number (spF g 1 1 m_is_number) :=
  okF T.F_is_number sc_is_number rfl rfl (by decide) fun cdv A outer s H E hr =>
    (pss_mOne (ps_mRet (pe_mAnd rfl (pe_mIsa .int rfl (by rfl) T.z_isinstance (pe_mVarF (pv 0)) (tyP (by rfl) T.z_int (by decide +kernel))) (pe_one (pe_mNot rfl (pe_mIsa .bool rfl (by rfl) T.z_isinstance (pe_mVarF (pv 0)) (tyP (by rfl) T.z_bool (by decide +kernel))))))))
def m_needed : MS := (mSeq (mIf (mB (mBin (isND false) (mVarF 0) (mC .non)))
    (mRaise0 1)
    mSkip)
    (mRet (mVarF 0)))
theorem ok_needed (T : Tx mg g fd iA iF) : FnOk P w g.K mg base (L2.CX P w) 3 (g.F 1) (fd 1) P_needed (spF g 1 1 m_needed) :=
  okF T.F_needed sc_needed rfl rfl (by decide) fun cdv A outer s H E hr =>
    have tk := takes_of (E := E) rfl rfl rfl rfl
    (pss_mCons (ps_mIf (pt_mCmp op_isN rop_isN (pe_mVarF (pv 0)) pe_mNon (nomark _))
    (pss_mOne (ps_mRaise0 (c := 1) rfl rfl tk base_VE T.E_Unfit T.i_Unfit T.j_Unfit (ok_init_Unfit T) (hr.mono (by decide)) T.B_Unfit (by rfl) T.n_Unfit T.f_Unfit))
    pss_mNil)
    (pss_mOne (ps_mRet (pe_mVarF (pv 0)))))
def m_plain_number : MS := (mSeq (mIf (mOrT (mNotT (mTru (mCall m_is_number 1 [] (mCons (mVarF 0) mNil)))) (mOrT (mB (mBin ltD (mVarF 0) (mVarF 1))) (mAndT (mB (mBin (isND true) (mVarF 2) (mC .non))) (mB (mBin gtD (mVarF 0) (mVarF 2))))))
    (mRet (mC .non))
    mSkip)
    (mRet (mVarF 0)))
theorem ok_plain_number (T : Tx mg g fd iA iF) : FnOk P w g.K mg base (L2.CX P w) 2 (g.F 2) (fd 2) P_plain_number (spF g 3 3 m_plain_number) :=
  okFD T.F_plain_number sc_plain_number rfl rfl (by decide) fun cdv A outer s H E hr =>
    have tk := takes_of (E := E) rfl rfl rfl rfl
    (pss_mCons (ps_mIf (PW.pt (pw_mOr (pt_mNot (pt_mTru rfl (pe_mCall (ok_is_number T) (hr.mono (by decide)) (by rfl) T.m_is_number T.F_is_number.kp T.b_is_number .nil (passT tk) (dfl := []) (fun _ _ => RpA.nil) hE_of (pa_mCons (pe_mVarF (pv 0)) pa_mNil) (len_cons len_nil) rfl) (by intro _; rfl))) (pw_mOr (pt_mCmp (OpR.or (op_lt) (op_ltP hr.units)) ROp.ord (pe_mVarF (pv 0)) (pe_mVarF (pv 1)) (nomark _)) (pw_or1 (PW.pt (pw_mAnd (pt_mCmp op_notN rop_notN (pe_mVarF (pv 2)) pe_mNon (nomark _)) (pw_and1 (pt_mCmp (OpR.or (op_gt) (op_gtP hr.units)) ROp.ord (pe_mVarF (pv 0)) (pe_mVarF (pv 2)) (nomark _)))))))))
    (pss_mOne (ps_mRet pe_mNon))
    pss_mNil)
    (pss_mOne (ps_mRet (pe_mVarF (pv 0)))))
def m_need_from : MS := (mRet (mCall m_needed 1 [] (mCons (mCall m_plain_number 3 [.non] (mCons (mVarF 0) (mCons (mVarF 1) mNil))) mNil)))
theorem ok_need_from (T : Tx mg g fd iA iF) : FnOk P w g.K mg base (L2.CX P w) 4 (g.F 3) (fd 3) P_need_from (spF g 2 2 m_need_from) :=
  okF T.F_need_from sc_need_from rfl rfl (by decide) fun cdv A outer s H E hr =>
    have tk := takes_of (E := E) rfl rfl rfl rfl
    (pss_mOne (ps_mRet (pe_mCall (ok_needed T) (hr.mono (by decide)) (by rfl) T.m_needed T.F_needed.kp T.b_needed .nil (passT tk) (dfl := []) (fun _ _ => RpA.nil) hE_of (pa_mCons (pe_mCallD (ok_plain_number T) (hr.mono (by decide)) (by rfl) T.m_plain_number T.F_plain_number.kp T.b_plain_number_0 (passT tk) (dfl := [.non]) (fun _ _ => (RpA.cons .non RpA.nil)) hE_of (pa_mCons (pe_mVarF (pv 0)) (pa_mCons (pe_mVarF (pv 1)) pa_mNil)) (lenDf (len_cons (len_cons len_nil)) rfl) rfl) pa_mNil) (len_cons len_nil) rfl)))
def m_check_high : MS := (mIf (mB (mBin gtD (mVarF 0) (mC (.int 5))))
    (mRaise0 0)
    mSkip)
theorem ok_check_high (T : Tx mg g fd iA iF) : FnOk P w g.K mg base (L2.CX P w) 3 (g.F 4) (fd 4) P_check_high (spF g 1 1 m_check_high) :=
  okF T.F_check_high sc_check_high rfl rfl (by decide) fun cdv A outer s H E hr =>
    have tk := takes_of (E := E) rfl rfl rfl rfl
    (pss_mOne (ps_mIf (pt_mCmp (OpR.or (op_gt) (op_gtP hr.units)) ROp.ord (pe_mVarF (pv 0)) (pe_mGi T.c_HIGHEST (by rfl)) (nomark _))
    (pss_mOne (ps_mRaise0 (c := 0) rfl rfl tk base_VE T.E_TooMany T.i_TooMany T.j_TooMany (ok_init_TooMany T) (hr.mono (by decide)) T.B_TooMany (by rfl) T.n_TooMany T.f_TooMany))
    pss_mNil))
def m_check_corridor : MS := (mSeq (mDrop (mCall m_check_high 1 [] (mCons (mVarF 0) mNil)))
    (mIf (mB (mBin gtD (mVarF 1) (mVarF 2)))
    (mRaise0 0)
    mSkip))
theorem ok_check_corridor (T : Tx mg g fd iA iF) : FnOk P w g.K mg base (L2.CX P w) 4 (g.F 5) (fd 5) P_check_corridor (spF g 3 3 m_check_corridor) :=
  okF T.F_check_corridor sc_check_corridor rfl rfl (by decide) fun cdv A outer s H E hr =>
    have tk := takes_of (E := E) rfl rfl rfl rfl
    (pss_mCons (ps_mDrop (pe_mCall (ok_check_high T) (hr.mono (by decide)) (by rfl) T.m_check_high T.F_check_high.kp T.b_check_high .nil (passT tk) (dfl := []) (fun _ _ => RpA.nil) hE_of (pa_mCons (pe_mVarF (pv 0)) pa_mNil) (len_cons len_nil) rfl))
    (pss_mOne (ps_mIf (pt_mCmp (OpR.or (op_gt) (op_gtP hr.units)) ROp.ord (pe_mVarF (pv 1)) (pe_mVarF (pv 2)) (nomark _))
    (pss_mOne (ps_mRaise0 (c := 0) rfl rfl tk base_VE T.E_TooMany T.i_TooMany T.j_TooMany (ok_init_TooMany T) (hr.mono (by decide)) T.B_TooMany (by rfl) T.n_TooMany T.f_TooMany))
    pss_mNil)))
def m_need_corridor : MS := (mSeq (mPar [0, 1] (mCons (mCall m_need_from 2 [] (mCons (mVarF 0) (mCons (mC (.int 1)) mNil))) (mCons (mCall m_need_from 2 [] (mCons (mVarF 1) (mCons (mC (.int 1)) mNil))) mNil)))
    (mSeq (mDrop (mCall m_check_corridor 3 [] (mCons (mVarF 0) (mCons (mVarF 1) (mCons (mVarF 2) mNil)))))
    (mRet (mTup (mCons (mVarF 0) (mCons (mVarF 1) mNil))))))
theorem ok_need_corridor (T : Tx mg g fd iA iF) : FnOk P w g.K mg base (L2.CX P w) 5 (g.F 6) (fd 6) P_need_corridor (spF g 3 3 m_need_corridor) :=
  okF T.F_need_corridor sc_need_corridor rfl rfl (by decide) fun cdv A outer s H E hr =>
    have tk := takes_of (E := E) rfl rfl rfl rfl
    (pss_mCons (ps_mPar (i := 0) (j := 1) rfl sc_need_corridor.nd rfl rfl (by decide) rfl rfl (pa_mCons (pe_mCall (ok_need_from T) (hr.mono (by decide)) (by rfl) T.m_need_from T.F_need_from.kp T.b_need_from .nil (passT tk) (dfl := []) (fun _ _ => RpA.nil) hE_of (pa_mCons (pe_mVarF (pv 0)) (pa_mCons pe_mInt pa_mNil)) (len_cons (len_cons len_nil)) rfl) (pa_mCons (pe_mCall (ok_need_from T) (hr.mono (by decide)) (by rfl) T.m_need_from T.F_need_from.kp T.b_need_from .nil (passT tk) (dfl := []) (fun _ _ => RpA.nil) hE_of (pa_mCons (pe_mVarF (pv 1)) (pa_mCons pe_mInt pa_mNil)) (len_cons (len_cons len_nil)) rfl) pa_mNil)) (by rfl))
    (pss_mCons (ps_mDrop (pe_mCall (ok_check_corridor T) (hr.mono (by decide)) (by rfl) T.m_check_corridor T.F_check_corridor.kp T.b_check_corridor .nil (passT tk) (dfl := []) (fun _ _ => RpA.nil) hE_of (pa_mCons (pe_mVarF (pv 0)) (pa_mCons (pe_mVarF (pv 1)) (pa_mCons (pe_mVarF (pv 2)) pa_mNil))) (len_cons (len_cons (len_cons len_nil))) rfl))
    (pss_mOne (ps_mRet (pe_mTup (pa_mCons (pe_mVarF (pv 0)) (pa_mCons (pe_mVarF (pv 1)) pa_mNil)))))))
def m_reduced : MS := (mSeq (mSetF 0 (fList (mVarF 0)))
    (mSeq (whileS (mB (mBin gtD (mLenB 0) (mFun lenD (mCons (mVarF 1) mNil)))) (mSeq (mAsg 3 (mPop 0))
    (mFor (miFun enumAF (mCons (mVarF 1) mNil)) (tgTup [4, 5]) (mPutL 0 (mBin subD (mNeg (mC (.int 1))) (mVarF 4)) (mBin modD (mBin addKD (mIxC 0 (mBin subD (mNeg (mC (.int 1))) (mVarF 4))) (mBin mulKD (mVarF 3) (mVarF 5))) (mVarF 2))))) 1000)
    (mRet (mVarF 0))))
theorem ok_reduced (T : Tx mg g fd iA iF) : FnOk P w g.K mg base (L2.CX P w) 1 (g.F 7) (fd 7) P_reduced (spF g 3 6 m_reduced) :=
  okF T.F_reduced sc_reduced rfl rfl (by decide) fun cdv A outer s H E hr =>
    (pss_mCons (ps_mSetF (i := 0) sc_reduced.nd rfl (by first | exact Or.inl rfl | exact Or.inr rfl) (pe_fList rfl (by rfl) T.z_list (pe_mVarF (pv 0))))
    (pss_mCons (ps_mWhile 1000 (passes_of rfl) (pt_mCmp (OpR.or (op_gt) (op_gtP hr.units)) ROp.ord (pe_mLenB rfl (by rfl) T.z_len (pv 0) (pe_mCallB call_len rop_len (by rfl) T.z_len (by decide +kernel) (pa_mCons (pe_mVarF (pv 0)) pa_mNil))) (pe_mCallB call_len rop_len (by rfl) T.z_len (by decide +kernel) (pa_mCons (pe_mVarF (pv 1)) pa_mNil)) (nomark _)) (pss_mCons (ps_mAsg (i := 3) sc_reduced.nd rfl (by first | exact Or.inl rfl | exact Or.inr rfl) (pe_mPop rfl (pv 0)))
    (pss_mOne (ps_mFor (passes_of rfl) rfl (pi_mEnumA rfl (by rfl) T.z_enumerate (pa_mCons (pe_mVarF (pv 1)) pa_mNil)) (pg_tup (by rfl) (pgs_cons (pg_name (i := 4) sc_reduced.nd rfl (by first | exact Or.inl rfl | exact Or.inr rfl)) (pgs_cons (pg_name (i := 5) sc_reduced.nd rfl (by first | exact Or.inl rfl | exact Or.inr rfl)) pgs_nil))) (gok_tup [4, 5]) (pss_mOne (ps_mPutL (pv 0) (pe_mBin op_sub rop_sub (pe_mNeg pe_mInt) (pe_mVarF (pv 4))) (pe_mBin op_mod rop_mod (pe_mBin op_addK rop_addK (pe_mIxC rfl (hu_of hr) (pv 0) (pe_mBin op_sub rop_sub (pe_mNeg pe_mInt) (pe_mVarF (pv 4))) (fun _ _ => rfl) (fun _ _ => rfl)) (pe_mBin op_mulU rop_mulK (pe_mVarF (pv 3)) (pe_mVarF (pv 5)))) (pe_mVarF (pv 2)))))))))
    (pss_mOne (ps_mRet (pe_mVarF (pv 0))))))
def m_times : MS := (mSeq (mSetF 3 (fMul (mLst (mCons (mC (.int 0)) mNil)) (mBin subD (mBin mulKD (mC (.int 2)) (mFun lenD (mCons (mVarF 0) mNil))) (mC (.int 1)))))
    (mSeq (mFor (miFun enumAF (mCons (mVarF 0) mNil)) (tgTup [4, 5]) (mFor (miFun enumAF (mCons (mVarF 0) mNil)) (tgTup [6, 7]) (mAugL addI 3 (mBin addKD (mVarF 4) (mVarF 6)) (mBin mulKD (mVarF 5) (mVarF 7)))))
    (mRet (mCall m_reduced 6 [] (mCons (mVarF 3) (mCons (mVarF 1) (mCons (mVarF 2) mNil)))))))
theorem ok_times (T : Tx mg g fd iA iF) : FnOk P w g.K mg base (L2.CX P w) 2 (g.F 8) (fd 8) P_times (spF g 3 8 m_times) :=
  okF T.F_times sc_times rfl rfl (by decide) fun cdv A outer s H E hr =>
    have tk := takes_of (E := E) rfl rfl rfl rfl
    (pss_mCons (ps_mSetF (i := 3) sc_times.nd rfl (by first | exact Or.inl rfl | exact Or.inr rfl) (pe_fMul (pe_mLst (pa_mCons pe_mInt pa_mNil)) (pe_mBin op_sub rop_sub (pe_mBin op_mulU rop_mulK pe_mInt (pe_mCallB call_len rop_len (by rfl) T.z_len (by decide +kernel) (pa_mCons (pe_mVarF (pv 0)) pa_mNil))) pe_mInt)))
    (pss_mCons (ps_mFor (passes_of rfl) rfl (pi_mEnumA rfl (by rfl) T.z_enumerate (pa_mCons (pe_mVarF (pv 0)) pa_mNil)) (pg_tup (by rfl) (pgs_cons (pg_name (i := 4) sc_times.nd rfl (by first | exact Or.inl rfl | exact Or.inr rfl)) (pgs_cons (pg_name (i := 5) sc_times.nd rfl (by first | exact Or.inl rfl | exact Or.inr rfl)) pgs_nil))) (gok_tup [4, 5]) (pss_mOne (ps_mFor (passes_of rfl) rfl (pi_mEnumA rfl (by rfl) T.z_enumerate (pa_mCons (pe_mVarF (pv 0)) pa_mNil)) (pg_tup (by rfl) (pgs_cons (pg_name (i := 6) sc_times.nd rfl (by first | exact Or.inl rfl | exact Or.inr rfl)) (pgs_cons (pg_name (i := 7) sc_times.nd rfl (by first | exact Or.inl rfl | exact Or.inr rfl)) pgs_nil))) (gok_tup [6, 7]) (pss_mOne (ps_mAugL iop_add rop_addI (pv 3) (pe_mBin op_addK rop_addK (pe_mVarF (pv 4)) (pe_mVarF (pv 6))) (pe_mBin op_mulU rop_mulK (pe_mVarF (pv 5)) (pe_mVarF (pv 7))))))))
    (pss_mOne (ps_mRet (pe_mCall (ok_reduced T) (hr.mono (by decide)) (by rfl) T.m_reduced T.F_reduced.kp T.b_reduced .nil (passT tk) (dfl := []) (fun _ _ => RpA.nil) hE_of (pa_mCons (pe_mVarF (pv 3)) (pa_mCons (pe_mVarF (pv 1)) (pa_mCons (pe_mVarF (pv 2)) pa_mNil))) (len_cons (len_cons (len_cons len_nil))) rfl)))))
def m_power : MS := (mSeq (mAsg 3 (mLst (mCons (mC (.int 1)) mNil)))
    (mSeq (mFor (miFun revF (mCons (mFun bitsD (mCons (mVarF 0) mNil)) mNil)) (tgName 4) (mSeq (mAsg 3 (mCall m_times 8 [] (mCons (mVarF 3) (mCons (mVarF 1) (mCons (mVarF 2) mNil)))))
    (mIf (mTru (mBin andD (mBin shrD (mVarF 0) (mVarF 4)) (mC (.int 1))))
    (mAsg 3 (mCall m_reduced 6 [] (mCons (mBin addKD (mLst (mCons (mC (.int 0)) mNil)) (mVarF 3)) (mCons (mVarF 1) (mCons (mVarF 2) mNil)))))
    mSkip)))
    (mRet (mVarF 3))))
theorem ok_power (T : Tx mg g fd iA iF) : FnOk P w g.K mg base (L2.CX P w) 3 (g.F 9) (fd 9) P_power (spF g 3 5 m_power) :=
  okF T.F_power sc_power rfl rfl (by decide) fun cdv A outer s H E hr =>
    have tk := takes_of (E := E) rfl rfl rfl rfl
    (pss_mCons (ps_mAsg (i := 3) sc_power.nd rfl (by first | exact Or.inl rfl | exact Or.inr rfl) (pe_mLst (pa_mCons pe_mInt pa_mNil)))
    (pss_mCons (ps_mFor (passes_of rfl) rfl (pi_mRev1 (by rfl) T.z_reversed (by rfl) T.z_range (pe_mBits (pe_mVarF (pv 0)))) (pg_name (i := 4) sc_power.nd rfl (by first | exact Or.inl rfl | exact Or.inr rfl)) (gok_name 4) (pss_mCons (ps_mAsg (i := 3) sc_power.nd rfl (by first | exact Or.inl rfl | exact Or.inr rfl) (pe_mCall (ok_times T) (hr.mono (by decide)) (by rfl) T.m_times T.F_times.kp T.b_times .nil (passT tk) (dfl := []) (fun _ _ => RpA.nil) hE_of (pa_mCons (pe_mVarF (pv 3)) (pa_mCons (pe_mVarF (pv 1)) (pa_mCons (pe_mVarF (pv 2)) pa_mNil))) (len_cons (len_cons (len_cons len_nil))) rfl))
    (pss_mOne (ps_mIf (pt_mTru rfl (pe_mBin op_and rop_and (pe_mBin op_shr rop_shr (pe_mVarF (pv 0)) (pe_mVarF (pv 4))) pe_mInt) (by intro _; rfl))
    (pss_mOne (ps_mAsg (i := 3) sc_power.nd rfl (by first | exact Or.inl rfl | exact Or.inr rfl) (pe_mCall (ok_reduced T) (hr.mono (by decide)) (by rfl) T.m_reduced T.F_reduced.kp T.b_reduced .nil (passT tk) (dfl := []) (fun _ _ => RpA.nil) hE_of (pa_mCons (pe_mBin op_addK rop_addK (pe_mLst (pa_mCons pe_mInt pa_mNil)) (pe_mVarF (pv 3))) (pa_mCons (pe_mVarF (pv 1)) (pa_mCons (pe_mVarF (pv 2)) pa_mNil))) (len_cons (len_cons (len_cons len_nil))) rfl)))
    pss_mNil))))
    (pss_mOne (ps_mRet (pe_mVarF (pv 3))))))
def m_corridor_count : MS := (mSeq (mTo (tgTL [0, 1]) (mCall m_need_corridor 3 [] (mCons (mVarF 0) (mCons (mVarF 1) (mCons (mC (.int 2000)) mNil)))))
    (mSeq (mAsg 2 (mBin ixD (mC (.kt [(.kt [(.int 1), (.int 1)]), (.kt [(.int 2), (.int 0), (.int 2), (.int (-1))]), (.kt [(.int 1), (.int 2), (.int 0), (.int 2), (.int (-1)), (.int (-1))]), (.kt [(.int 1), (.int 1), (.int 1), (.int (-1)), (.int 7), (.int (-7)), (.int 1), (.int (-1)), (.int (-1)), (.int (-1)), (.int 1)]), (.kt [(.int 1), (.int 1), (.int (-1)), (.int 3), (.int (-1)), (.int 5), (.int (-2)), (.int (-5)), (.int (-1)), (.int (-3)), (.int (-1)), (.int (-1)), (.int 1), (.int 1)])])) (mBin subD (mVarF 0) (mC (.int 1)))))
    (mSeq (mSetF 3 (fList (mBin ixD (mC (.kt [(.kt [(.int 1), (.int 2)]), (.kt [(.int 2), (.int 6), (.int 13), (.int 29)]), (.kt [(.int 3), (.int 13), (.int 22), (.int 44), (.int 90), (.int 196), (.int 406), (.int 852)]), (.kt [(.int 5), (.int 29), (.int 44), (.int 66), (.int 126), (.int 238), (.int 490), (.int 922), (.int 1714), (.int 3306), (.int 6246), (.int 12102), (.int 22994), (.int 43682)]), (.kt [(.int 8), (.int 68), (.int 90), (.int 126), (.int 178), (.int 325), (.int 584), (.int 1165), (.int 2030), (.int 3619), (.int 6080), (.int 10987), (.int 19362), (.int 35477), (.int 62360), (.int 111837), (.int 195614), (.int 350707)])])) (mBin subD (mVarF 0) (mC (.int 1))))))
    (mSeq (whileS (mB (mBin ltD (mLenB 3) (mVarF 1))) (mSeq (mAsg 4 (mStepB 3 (mPS (mNeg (mC (.int 1)))) (mPS (mBin subD (mNeg (mFun lenD (mCons (mVarF 2) mNil))) (mC (.int 1)))) (mPS (mNeg (mC (.int 1))))))
    (mDrop (mApp 3 (mFun sumD (mCons (mLc (miFun zip2F (mCons (mVarF 2) (mCons (mVarF 4) mNil))) (tgTup [5, 6]) mYes (mBin mulKD (mVarF 5) (mVarF 6)) [5, 6]) mNil))))) 2100)
    (mRet (mIxC 3 (mBin subD (mVarF 1) (mC (.int 1)))))))))
theorem ok_corridor_count (T : Tx mg g fd iA iF) : FnOk P w g.K mg base (L2.CX P w) 6 (g.F 10) (fd 10) P_corridor_count (spF g 2 7 m_corridor_count) :=
  okF T.F_corridor_count sc_corridor_count rfl rfl (by decide) fun cdv A outer s H E hr =>
    have tk := takes_of (E := E) rfl rfl rfl rfl
    (pss_mCons (ps_mTo (pe_mCall (ok_need_corridor T) (hr.mono (by decide)) (by rfl) T.m_need_corridor T.F_need_corridor.kp T.b_need_corridor .nil (passT tk) (dfl := []) (fun _ _ => RpA.nil) hE_of (pa_mCons (pe_mVarF (pv 0)) (pa_mCons (pe_mVarF (pv 1)) (pa_mCons (pe_mGi T.c_WIDEST_COUNT (by rfl)) pa_mNil))) (len_cons (len_cons (len_cons len_nil))) rfl) (pg_tl (by rfl) (pgs_cons (pg_name (i := 0) sc_corridor_count.nd rfl (by first | exact Or.inl rfl | exact Or.inr rfl)) (pgs_cons (pg_name (i := 1) sc_corridor_count.nd rfl (by first | exact Or.inl rfl | exact Or.inr rfl)) pgs_nil))) (gok_tl [0, 1]))
    (pss_mCons (ps_mAsg (i := 2) sc_corridor_count.nd rfl (by first | exact Or.inl rfl | exact Or.inr rfl) (pe_mIx rfl (hu_of hr) (pe_mGt T.c_PARTS (by rfl)) (pe_mBin op_sub rop_sub (pe_mVarF (pv 0)) pe_mInt) (fun _ _ => rfl) (fun _ _ => rfl)))
    (pss_mCons (ps_mSetF (i := 3) sc_corridor_count.nd rfl (by first | exact Or.inl rfl | exact Or.inr rfl) (pe_fList rfl (by rfl) T.z_list (pe_mIx rfl (hu_of hr) (pe_mGt T.c_FIRST_COUNTS (by rfl)) (pe_mBin op_sub rop_sub (pe_mVarF (pv 0)) pe_mInt) (fun _ _ => rfl) (fun _ _ => rfl))))
    (pss_mCons (ps_mWhile 2100 (passes_of rfl) (pt_mCmp (OpR.or (op_lt) (op_ltP hr.units)) ROp.ord (pe_mLenB rfl (by rfl) T.z_len (pv 3) (pe_mCallB call_len rop_len (by rfl) T.z_len (by decide +kernel) (pa_mCons (pe_mVarF (pv 3)) pa_mNil))) (pe_mVarF (pv 1)) (nomark _)) (pss_mCons (ps_mAsg (i := 4) sc_corridor_count.nd rfl (by first | exact Or.inl rfl | exact Or.inr rfl) (pe_mStepB rfl (pv 3) (po_mS (pe_mNeg pe_mInt)) (po_mS (pe_mBin op_sub rop_sub (pe_mNeg (pe_mCallB call_len rop_len (by rfl) T.z_len (by decide +kernel) (pa_mCons (pe_mVarF (pv 2)) pa_mNil))) pe_mInt)) (po_mS (pe_mNeg pe_mInt))))
    (pss_mOne (ps_mDrop (pe_mApp rfl (pv 3) (pe_mCallB (cr_sum rfl) rop_sum (by rfl) T.z_sum (by decide +kernel) (pa_mCons (pe_mLc (own := [("part", 5), ("count", 6)]) rfl sc_corridor_count.nd (pi_mZip2 rfl (by rfl) T.z_zip (pa_mCons (pe_mVarF (pv 2)) (pa_mCons (pe_mVarF (pv 4)) pa_mNil))) (blkOk_by (own := [("part", 5), ("count", 6)]) (N := N_corridor_count) (sc := defScope s_corridor_count) (by decide +kernel)) (gok_tup [5, 6]) (by decide) (fun _ _ _ _ _ => (pg_tup (by rfl) (pgs_cons (pg_name (i := 5) sc_corridor_count.nd rfl (by first | exact Or.inl rfl | exact Or.inr rfl)) (pgs_cons (pg_name (i := 6) sc_corridor_count.nd rfl (by first | exact Or.inl rfl | exact Or.inr rfl)) pgs_nil)))) (fun _ _ _ _ _ => pts_mNil) (fun _ _ _ _ _ => (pe_mBin op_mulU rop_mulK (pe_mVarF (pv 5)) (pe_mVarF (pv 6))))) pa_mNil)))))))
    (pss_mOne (ps_mRet (pe_mIxC rfl (hu_of hr) (pv 3) (pe_mBin op_sub rop_sub (pe_mVarF (pv 1)) pe_mInt) (fun _ _ => rfl) (fun _ _ => rfl))))))))
def m_corridor_rest : MS := (mSeq (mPar [0, 1, 2] (mCons (mCall m_need_from 2 [] (mCons (mVarF 0) (mCons (mC (.int 1)) mNil))) (mCons (mCall m_need_from 2 [] (mCons (mVarF 1) (mCons (mC (.int 1)) mNil))) (mCons (mCall m_need_from 2 [] (mCons (mVarF 2) (mCons (mC (.int 1)) mNil))) mNil))))
    (mSeq (mDrop (mCall m_check_high 1 [] (mCons (mVarF 0) mNil)))
    (mSeq (mPar [3, 4] (mCons (mBin ixD (mC (.kt [(.kt [(.int 1), (.int 1)]), (.kt [(.int 2), (.int 0), (.int 2), (.int (-1))]), (.kt [(.int 1), (.int 2), (.int 0), (.int 2), (.int (-1)), (.int (-1))]), (.kt [(.int 1), (.int 1), (.int 1), (.int (-1)), (.int 7), (.int (-7)), (.int 1), (.int (-1)), (.int (-1)), (.int (-1)), (.int 1)]), (.kt [(.int 1), (.int 1), (.int (-1)), (.int 3), (.int (-1)), (.int 5), (.int (-2)), (.int (-5)), (.int (-1)), (.int (-3)), (.int (-1)), (.int (-1)), (.int 1), (.int 1)])])) (mBin subD (mVarF 0) (mC (.int 1)))) (mCons (mBin ixD (mC (.kt [(.kt [(.int 1), (.int 2)]), (.kt [(.int 2), (.int 6), (.int 13), (.int 29)]), (.kt [(.int 3), (.int 13), (.int 22), (.int 44), (.int 90), (.int 196), (.int 406), (.int 852)]), (.kt [(.int 5), (.int 29), (.int 44), (.int 66), (.int 126), (.int 238), (.int 490), (.int 922), (.int 1714), (.int 3306), (.int 6246), (.int 12102), (.int 22994), (.int 43682)]), (.kt [(.int 8), (.int 68), (.int 90), (.int 126), (.int 178), (.int 325), (.int 584), (.int 1165), (.int 2030), (.int 3619), (.int 6080), (.int 10987), (.int 19362), (.int 35477), (.int 62360), (.int 111837), (.int 195614), (.int 350707)])])) (mBin subD (mVarF 0) (mC (.int 1)))) mNil)))
    (mSeq (mIf (mB (mBin leD (mVarF 1) (mFun lenD (mCons (mVarF 4) mNil))))
    (mRet (mBin modD (mBin ixD (mVarF 4) (mBin subD (mVarF 1) (mC (.int 1)))) (mVarF 2)))
    mSkip)
    (mSeq (mAsg 5 (mSlK (mVarF 4) (mPS (mNeg (mFun lenD (mCons (mVarF 3) mNil)))) mPN))
    (mSeq (mAsg 6 (mCall m_power 5 [] (mCons (mBin addKD (mBin subD (mBin subD (mVarF 1) (mC (.int 1))) (mFun lenD (mCons (mVarF 4) mNil))) (mFun lenD (mCons (mVarF 3) mNil))) (mCons (mVarF 3) (mCons (mVarF 2) mNil)))))
    (mRet (mBin modD (mFun sumD (mCons (mLc (miFun zip2F (mCons (mVarF 6) (mCons (mVarF 5) mNil))) (tgTup [7, 8]) mYes (mBin mulKD (mVarF 7) (mVarF 8)) [7, 8]) mNil)) (mVarF 2)))))))))
theorem ok_corridor_rest (T : Tx mg g fd iA iF) : FnOk P w g.K mg base (L2.CX P w) 5 (g.F 11) (fd 11) P_corridor_rest (spF g 3 9 m_corridor_rest) :=
  okF T.F_corridor_rest sc_corridor_rest rfl rfl (by decide) fun cdv A outer s H E hr =>
    have tk := takes_of (E := E) rfl rfl rfl rfl
    (pss_mCons (ps_mPar3 (i := 0) (j := 1) (l := 2) rfl sc_corridor_rest.nd rfl rfl rfl (by decide) (by decide) (by decide) rfl rfl rfl (pa_mCons (pe_mCall (ok_need_from T) (hr.mono (by decide)) (by rfl) T.m_need_from T.F_need_from.kp T.b_need_from .nil (passT tk) (dfl := []) (fun _ _ => RpA.nil) hE_of (pa_mCons (pe_mVarF (pv 0)) (pa_mCons pe_mInt pa_mNil)) (len_cons (len_cons len_nil)) rfl) (pa_mCons (pe_mCall (ok_need_from T) (hr.mono (by decide)) (by rfl) T.m_need_from T.F_need_from.kp T.b_need_from .nil (passT tk) (dfl := []) (fun _ _ => RpA.nil) hE_of (pa_mCons (pe_mVarF (pv 1)) (pa_mCons pe_mInt pa_mNil)) (len_cons (len_cons len_nil)) rfl) (pa_mCons (pe_mCall (ok_need_from T) (hr.mono (by decide)) (by rfl) T.m_need_from T.F_need_from.kp T.b_need_from .nil (passT tk) (dfl := []) (fun _ _ => RpA.nil) hE_of (pa_mCons (pe_mVarF (pv 2)) (pa_mCons pe_mInt pa_mNil)) (len_cons (len_cons len_nil)) rfl) pa_mNil))) (by rfl))
    (pss_mCons (ps_mDrop (pe_mCall (ok_check_high T) (hr.mono (by decide)) (by rfl) T.m_check_high T.F_check_high.kp T.b_check_high .nil (passT tk) (dfl := []) (fun _ _ => RpA.nil) hE_of (pa_mCons (pe_mVarF (pv 0)) pa_mNil) (len_cons len_nil) rfl))
    (pss_mCons (ps_mPar (i := 3) (j := 4) rfl sc_corridor_rest.nd rfl rfl (by decide) rfl rfl (pa_mCons (pe_mIx rfl (hu_of hr) (pe_mGt T.c_PARTS (by rfl)) (pe_mBin op_sub rop_sub (pe_mVarF (pv 0)) pe_mInt) (fun _ _ => rfl) (fun _ _ => rfl)) (pa_mCons (pe_mIx rfl (hu_of hr) (pe_mGt T.c_FIRST_COUNTS (by rfl)) (pe_mBin op_sub rop_sub (pe_mVarF (pv 0)) pe_mInt) (fun _ _ => rfl) (fun _ _ => rfl)) pa_mNil)) (by rfl))
    (pss_mCons (ps_mIf (pt_mCmp (OpR.or (op_le) (op_leP hr.units)) ROp.ord (pe_mVarF (pv 1)) (pe_mCallB call_len rop_len (by rfl) T.z_len (by decide +kernel) (pa_mCons (pe_mVarF (pv 4)) pa_mNil)) (nomark _))
    (pss_mOne (ps_mRet (pe_mBin op_mod rop_mod (pe_mIx rfl (hu_of hr) (pe_mVarF (pv 4)) (pe_mBin op_sub rop_sub (pe_mVarF (pv 1)) pe_mInt) (fun _ _ => rfl) (fun _ _ => rfl)) (pe_mVarF (pv 2)))))
    pss_mNil)
    (pss_mCons (ps_mAsg (i := 5) sc_corridor_rest.nd rfl (by first | exact Or.inl rfl | exact Or.inr rfl) (pe_mSlK rfl (pe_mVarF (pv 4)) (po_mS (pe_mNeg (pe_mCallB call_len rop_len (by rfl) T.z_len (by decide +kernel) (pa_mCons (pe_mVarF (pv 3)) pa_mNil)))) po_mN))
    (pss_mCons (ps_mAsg (i := 6) sc_corridor_rest.nd rfl (by first | exact Or.inl rfl | exact Or.inr rfl) (pe_mCall (ok_power T) (hr.mono (by decide)) (by rfl) T.m_power T.F_power.kp T.b_power .nil (passT tk) (dfl := []) (fun _ _ => RpA.nil) hE_of (pa_mCons (pe_mBin op_addK rop_addK (pe_mBin op_sub rop_sub (pe_mBin op_sub rop_sub (pe_mVarF (pv 1)) pe_mInt) (pe_mCallB call_len rop_len (by rfl) T.z_len (by decide +kernel) (pa_mCons (pe_mVarF (pv 4)) pa_mNil))) (pe_mCallB call_len rop_len (by rfl) T.z_len (by decide +kernel) (pa_mCons (pe_mVarF (pv 3)) pa_mNil))) (pa_mCons (pe_mVarF (pv 3)) (pa_mCons (pe_mVarF (pv 2)) pa_mNil))) (len_cons (len_cons (len_cons len_nil))) rfl))
    (pss_mOne (ps_mRet (pe_mBin op_mod rop_mod (pe_mCallB (cr_sum rfl) rop_sum (by rfl) T.z_sum (by decide +kernel) (pa_mCons (pe_mLc (own := [("term", 7), ("count", 8)]) rfl sc_corridor_rest.nd (pi_mZip2 rfl (by rfl) T.z_zip (pa_mCons (pe_mVarF (pv 6)) (pa_mCons (pe_mVarF (pv 5)) pa_mNil))) (blkOk_by (own := [("term", 7), ("count", 8)]) (N := N_corridor_rest) (sc := defScope s_corridor_rest) (by decide +kernel)) (gok_tup [7, 8]) (by decide) (fun _ _ _ _ _ => (pg_tup (by rfl) (pgs_cons (pg_name (i := 7) sc_corridor_rest.nd rfl (by first | exact Or.inl rfl | exact Or.inr rfl)) (pgs_cons (pg_name (i := 8) sc_corridor_rest.nd rfl (by first | exact Or.inl rfl | exact Or.inr rfl)) pgs_nil)))) (fun _ _ _ _ _ => pts_mNil) (fun _ _ _ _ _ => (pe_mBin op_mulU rop_mulK (pe_mVarF (pv 7)) (pe_mVarF (pv 8))))) pa_mNil)) (pe_mVarF (pv 2)))))))))))
def m_corridor_rule : MS := (mSeq (mAsg 0 (mCall m_need_from 2 [] (mCons (mVarF 0) (mCons (mC (.int 1)) mNil))))
    (mSeq (mDrop (mCall m_check_high 1 [] (mCons (mVarF 0) mNil)))
    (mRet (mTup (mCons (mBin addKD (mFun lenD (mCons (mBin ixD (mC (.kt [(.kt [(.int 1), (.int 2)]), (.kt [(.int 2), (.int 6), (.int 13), (.int 29)]), (.kt [(.int 3), (.int 13), (.int 22), (.int 44), (.int 90), (.int 196), (.int 406), (.int 852)]), (.kt [(.int 5), (.int 29), (.int 44), (.int 66), (.int 126), (.int 238), (.int 490), (.int 922), (.int 1714), (.int 3306), (.int 6246), (.int 12102), (.int 22994), (.int 43682)]), (.kt [(.int 8), (.int 68), (.int 90), (.int 126), (.int 178), (.int 325), (.int 584), (.int 1165), (.int 2030), (.int 3619), (.int 6080), (.int 10987), (.int 19362), (.int 35477), (.int 62360), (.int 111837), (.int 195614), (.int 350707)])])) (mBin subD (mVarF 0) (mC (.int 1)))) mNil)) (mC (.int 1))) (mCons (mBin ixD (mC (.kt [(.kt [(.int 1), (.int 1)]), (.kt [(.int 2), (.int 0), (.int 2), (.int (-1))]), (.kt [(.int 1), (.int 2), (.int 0), (.int 2), (.int (-1)), (.int (-1))]), (.kt [(.int 1), (.int 1), (.int 1), (.int (-1)), (.int 7), (.int (-7)), (.int 1), (.int (-1)), (.int (-1)), (.int (-1)), (.int 1)]), (.kt [(.int 1), (.int 1), (.int (-1)), (.int 3), (.int (-1)), (.int 5), (.int (-2)), (.int (-5)), (.int (-1)), (.int (-3)), (.int (-1)), (.int (-1)), (.int 1), (.int 1)])])) (mBin subD (mVarF 0) (mC (.int 1)))) mNil))))))
theorem ok_corridor_rule (T : Tx mg g fd iA iF) : FnOk P w g.K mg base (L2.CX P w) 5 (g.F 12) (fd 12) P_corridor_rule (spF g 1 1 m_corridor_rule) :=
  okF T.F_corridor_rule sc_corridor_rule rfl rfl (by decide) fun cdv A outer s H E hr =>
    have tk := takes_of (E := E) rfl rfl rfl rfl
    (pss_mCons (ps_mAsg (i := 0) sc_corridor_rule.nd rfl (by first | exact Or.inl rfl | exact Or.inr rfl) (pe_mCall (ok_need_from T) (hr.mono (by decide)) (by rfl) T.m_need_from T.F_need_from.kp T.b_need_from .nil (passT tk) (dfl := []) (fun _ _ => RpA.nil) hE_of (pa_mCons (pe_mVarF (pv 0)) (pa_mCons pe_mInt pa_mNil)) (len_cons (len_cons len_nil)) rfl))
    (pss_mCons (ps_mDrop (pe_mCall (ok_check_high T) (hr.mono (by decide)) (by rfl) T.m_check_high T.F_check_high.kp T.b_check_high .nil (passT tk) (dfl := []) (fun _ _ => RpA.nil) hE_of (pa_mCons (pe_mVarF (pv 0)) pa_mNil) (len_cons len_nil) rfl))
    (pss_mOne (ps_mRet (pe_mTup (pa_mCons (pe_mBin op_addK rop_addK (pe_mCallB call_len rop_len (by rfl) T.z_len (by decide +kernel) (pa_mCons (pe_mIx rfl (hu_of hr) (pe_mGt T.c_FIRST_COUNTS (by rfl)) (pe_mBin op_sub rop_sub (pe_mVarF (pv 0)) pe_mInt) (fun _ _ => rfl) (fun _ _ => rfl)) pa_mNil)) pe_mInt) (pa_mCons (pe_mIx rfl (hu_of hr) (pe_mGt T.c_PARTS (by rfl)) (pe_mBin op_sub rop_sub (pe_mVarF (pv 0)) pe_mInt) (fun _ _ => rfl) (fun _ _ => rfl)) pa_mNil)))))))
def m__law_box : MS := (mAsg 2 (mIfE (mB (mBin ltD (mVarF 1) (mFun lenD (mCons (mVarF 0) mNil)))) (mBin ixD (mVarF 0) (mVarF 1)) (mC (.int 0))))
def f__law_box : MA := (fLst (mCons (mBin mulD (mFun absD (mCons (mVarF 2) mNil)) (mFun intD (mCons (mBin geD (mFun absD (mCons (mVarF 2) mNil)) (mBin powD (mC (.int 10)) (mC (.int 18)))) mNil))) (mCons (mBin addD (mBin addD (mBin modD (mFun intD (mCons (mVarF 2) mNil)) (mC (.int 2305843009213693951))) (mBin mulD (mC (.int 39373)) (mVarF 1))) (mC (.int 5322028))) (mCons (mC (.int 0)) mNil))))
theorem ok__law_box (T : Tx mg g fd iA iF) : FnOk P w g.K mg base (L2.CX P w) 1 (g.F 13) (fd 13) P__law_box (spFr g 2 3 m__law_box f__law_box) :=
  okFr T.F__law_box sc__law_box rfl rfl (by decide) fun cdv A outer s H E hr =>
    pss_cons (ps_mAsg (i := 2) sc__law_box.nd rfl (by first | exact Or.inl rfl | exact Or.inr rfl) (pe_mIfE (pt_mCmp (OpR.or (op_lt) (op_ltP hr.units)) ROp.ord (pe_mVarF (pv 1)) (pe_mCallB call_len rop_len (by rfl) T.z_len (by decide +kernel) (pa_mCons (pe_mVarF (pv 0)) pa_mNil)) (nomark _)) (pe_mIx rfl (hu_of hr) (pe_mVarF (pv 0)) (pe_mVarF (pv 1)) (fun _ _ => rfl) (fun _ _ => rfl)) pe_mInt)) (pss_one (ps_ret (pe_fLst (pa_mCons (pe_mBin op_mulU rop_mul (pe_mCallB call_abs rop_abs (by rfl) T.z_abs (by decide +kernel) (pa_mCons (pe_mVarF (pv 2)) pa_mNil)) (pe_mCallT call_int1 rop_int (by rfl) T.z_int (by decide +kernel) (pa_mCons (pe_mCmp (OpR.or (op_ge) (op_geP hr.units)) ROp.ord (pe_mCallB call_abs rop_abs (by rfl) T.z_abs (by decide +kernel) (pa_mCons (pe_mVarF (pv 2)) pa_mNil)) (pe_mBin op_pow rop_pow pe_mInt pe_mInt) (nomark _)) pa_mNil))) (pa_mCons (pe_mBin op_addU rop_add (pe_mBin op_addU rop_add (pe_mBin op_mod rop_mod (pe_mCallT call_int1 rop_int (by rfl) T.z_int (by decide +kernel) (pa_mCons (pe_mVarF (pv 2)) pa_mNil)) pe_mInt) (pe_mBin op_mulU rop_mul pe_mInt (pe_mVarF (pv 1)))) pe_mInt) (pa_mCons pe_mInt pa_mNil))))))
def m__law_take : MS := (mSeq (mIf (mB (mBin gtD (mIxB 0 (mC (.int 0))) (mC (.int 0))))
    (mSeq (mAsg 2 (mBin modD (mFun intD (mCons (mIxB 0 (mC (.int 0))) mNil)) (mVarF 1)))
    (mSeq (mPutL 0 (mC (.int 0)) (mBin divWD (mIxB 0 (mC (.int 0))) (mVarF 1)))
    (mRet (mVarF 2))))
    mSkip)
    (mSeq (mPutL 0 (mC (.int 2)) (mBin addD (mIxB 0 (mC (.int 2))) (mC (.int 1))))
    (mSeq (mAsg 3 (mBin modD (mFun intD (mCons (mBin mulD (mBin addD (mIxB 0 (mC (.int 1))) (mBin mulD (mC (.int 48271)) (mIxB 0 (mC (.int 2))))) (mBin addD (mC (.int 39373)) (mIxB 0 (mC (.int 2))))) mNil)) (mC (.int 2147483647))))
    (mSeq (mAsg 4 (mBin addD (mBin modD (mFun intD (mCons (mVarF 3) mNil)) (mC (.int 40009))) (mC (.int 7))))
    (mSeq (mAsg 5 (mBin modD (mFun intD (mCons (mBin mulD (mBin addD (mBin addD (mVarF 3) (mIxB 0 (mC (.int 2)))) (mBin divD (mIxB 0 (mC (.int 1))) (mC (.int 1000003)))) (mVarF 4)) mNil)) (mC (.int 2147483629))))
    (mRet (mBin modD (mFun intD (mCons (mBin divD (mBin modD (mFun intD (mCons (mBin addD (mBin mulD (mVarF 5) (mC (.int 48271))) (mVarF 3)) mNil)) (mC (.int 2147483587))) (mC (.int 64))) mNil)) (mVarF 1))))))))
theorem ok__law_take (T : Tx mg g fd iA iF) : FnOk P w g.K mg base (L2.CX P w) 1 (g.F 14) (fd 14) P__law_take (spF g 2 6 m__law_take) :=
  okF T.F__law_take sc__law_take rfl rfl (by decide) fun cdv A outer s H E hr =>
    (pss_mCons (ps_mIf (pt_mCmp (OpR.or (op_gt) (op_gtP hr.units)) ROp.ord (pe_mIxB rfl (hu_of hr) (pv 0) pe_mInt (fun _ _ => rfl) (fun _ _ => rfl)) pe_mInt (nomark _))
    (pss_mCons (ps_mAsg (i := 2) sc__law_take.nd rfl (by first | exact Or.inl rfl | exact Or.inr rfl) (pe_mBin op_mod rop_mod (pe_mCallT call_int1 rop_int (by rfl) T.z_int (by decide +kernel) (pa_mCons (pe_mIxB rfl (hu_of hr) (pv 0) pe_mInt (fun _ _ => rfl) (fun _ _ => rfl)) pa_mNil)) (pe_mVarF (pv 1))))
    (pss_mCons (ps_mPutL (pv 0) pe_mInt (pe_mBin op_fdivW rop_divW (pe_mIxB rfl (hu_of hr) (pv 0) pe_mInt (fun _ _ => rfl) (fun _ _ => rfl)) (pe_mVarF (pv 1))))
    (pss_mOne (ps_mRet (pe_mVarF (pv 2))))))
    pss_mNil)
    (pss_mCons (ps_mPutL (pv 0) pe_mInt (pe_mBin op_addU rop_add (pe_mIxB rfl (hu_of hr) (pv 0) pe_mInt (fun _ _ => rfl) (fun _ _ => rfl)) pe_mInt))
    (pss_mCons (ps_mAsg (i := 3) sc__law_take.nd rfl (by first | exact Or.inl rfl | exact Or.inr rfl) (pe_mBin op_mod rop_mod (pe_mCallT call_int1 rop_int (by rfl) T.z_int (by decide +kernel) (pa_mCons (pe_mBin op_mulU rop_mul (pe_mBin op_addU rop_add (pe_mIxB rfl (hu_of hr) (pv 0) pe_mInt (fun _ _ => rfl) (fun _ _ => rfl)) (pe_mBin op_mulU rop_mul pe_mInt (pe_mIxB rfl (hu_of hr) (pv 0) pe_mInt (fun _ _ => rfl) (fun _ _ => rfl)))) (pe_mBin op_addU rop_add pe_mInt (pe_mIxB rfl (hu_of hr) (pv 0) pe_mInt (fun _ _ => rfl) (fun _ _ => rfl)))) pa_mNil)) pe_mInt))
    (pss_mCons (ps_mAsg (i := 4) sc__law_take.nd rfl (by first | exact Or.inl rfl | exact Or.inr rfl) (pe_mBin op_addU rop_add (pe_mBin op_mod rop_mod (pe_mCallT call_int1 rop_int (by rfl) T.z_int (by decide +kernel) (pa_mCons (pe_mVarF (pv 3)) pa_mNil)) pe_mInt) pe_mInt))
    (pss_mCons (ps_mAsg (i := 5) sc__law_take.nd rfl (by first | exact Or.inl rfl | exact Or.inr rfl) (pe_mBin op_mod rop_mod (pe_mCallT call_int1 rop_int (by rfl) T.z_int (by decide +kernel) (pa_mCons (pe_mBin op_mulU rop_mul (pe_mBin op_addU rop_add (pe_mBin op_addU rop_add (pe_mVarF (pv 3)) (pe_mIxB rfl (hu_of hr) (pv 0) pe_mInt (fun _ _ => rfl) (fun _ _ => rfl))) (pe_mBin op_fdiv rop_div (pe_mIxB rfl (hu_of hr) (pv 0) pe_mInt (fun _ _ => rfl) (fun _ _ => rfl)) pe_mInt)) (pe_mVarF (pv 4))) pa_mNil)) pe_mInt))
    (pss_mOne (ps_mRet (pe_mBin op_mod rop_mod (pe_mCallT call_int1 rop_int (by rfl) T.z_int (by decide +kernel) (pa_mCons (pe_mBin op_fdiv rop_div (pe_mBin op_mod rop_mod (pe_mCallT call_int1 rop_int (by rfl) T.z_int (by decide +kernel) (pa_mCons (pe_mBin op_addU rop_add (pe_mBin op_mulU rop_mul (pe_mVarF (pv 5)) pe_mInt) (pe_mVarF (pv 3))) pa_mNil)) pe_mInt) pe_mInt) pa_mNil)) (pe_mVarF (pv 1))))))))))
def m__law_cells : MS := (mSeq (mSetF 2 (fOr (fList (mSl (mVarF 0) mPN (mPS (mVarF 1)))) (fLst (mCons (mC (.int 0)) mNil))))
    (mSeq (mFor (miFun enumF (mCons (mSl (mVarF 0) (mPS (mVarF 1)) (mPS (mC (.int 63)))) mNil)) (tgTup [3, 4]) (mSeq (mAsg 5 (mBin modD (mFun intD (mCons (mVarF 3) mNil)) (mVarF 1)))
    (mPutL 2 (mVarF 5) (mBin addD (mIxB 2 (mVarF 5)) (mBin mulD (mVarF 4) (mBin addD (mVarF 3) (mC (.int 2))))))))
    (mRet (mVarF 2))))
theorem ok__law_cells (T : Tx mg g fd iA iF) : FnOk P w g.K mg base (L2.CX P w) 1 (g.F 15) (fd 15) P__law_cells (spF g 2 6 m__law_cells) :=
  okF T.F__law_cells sc__law_cells rfl rfl (by decide) fun cdv A outer s H E hr =>
    (pss_mCons (ps_mSetF (i := 2) sc__law_cells.nd rfl (by first | exact Or.inl rfl | exact Or.inr rfl) (pe_fOr rfl (pe_fList rfl (by rfl) T.z_list (pe_mSl rfl (pe_mVarF (pv 0)) po_mN (po_mS (pe_mVarF (pv 1))))) (pe_fLst (pa_mCons pe_mInt pa_mNil))))
    (pss_mCons (ps_mFor (passes_of rfl) rfl (pi_mEnum rfl (by rfl) T.z_enumerate (pa_mCons (pe_mSl rfl (pe_mVarF (pv 0)) (po_mS (pe_mVarF (pv 1))) (po_mS pe_mInt)) pa_mNil)) (pg_tup (by rfl) (pgs_cons (pg_name (i := 3) sc__law_cells.nd rfl (by first | exact Or.inl rfl | exact Or.inr rfl)) (pgs_cons (pg_name (i := 4) sc__law_cells.nd rfl (by first | exact Or.inl rfl | exact Or.inr rfl)) pgs_nil))) (gok_tup [3, 4]) (pss_mCons (ps_mAsg (i := 5) sc__law_cells.nd rfl (by first | exact Or.inl rfl | exact Or.inr rfl) (pe_mBin op_mod rop_mod (pe_mCallT call_int1 rop_int (by rfl) T.z_int (by decide +kernel) (pa_mCons (pe_mVarF (pv 3)) pa_mNil)) (pe_mVarF (pv 1))))
    (pss_mOne (ps_mPutL (pv 2) (pe_mVarF (pv 5)) (pe_mBin op_addU rop_add (pe_mIxB rfl (hu_of hr) (pv 2) (pe_mVarF (pv 5)) (fun _ _ => rfl) (fun _ _ => rfl)) (pe_mBin op_mulU rop_mul (pe_mVarF (pv 4)) (pe_mBin op_addU rop_add (pe_mVarF (pv 3)) pe_mInt)))))))
    (pss_mOne (ps_mRet (pe_mVarF (pv 2))))))
def m__law_same : Nat → MS
  | 0 => fun _ => .no
  | n + 1 => (mSeq (mIf (mTru (mIsa2 .list .tuple (mVarF 1)))
    (mSeq (mIf (mOrT (mB (mBin neD (mIsa .list (mVarF 0)) (mIsa .list (mVarF 1)))) (mB (mBin neD (mIsa .tuple (mVarF 0)) (mIsa .tuple (mVarF 1)))))
    (mRet (mC (.bl false)))
    mSkip)
    (mRet (mAnd (mBin eqD (mFun lenD (mCons (mVarF 0) mNil)) (mFun lenD (mCons (mVarF 1) mNil))) (mFun allD (mCons (mLc (miFun zip2F (mCons (mVarF 0) (mCons (mVarF 1) mNil))) (tgTup [2, 3]) mYes (mCall (m__law_same n) 4 [] (mCons (mVarF 2) (mCons (mVarF 3) mNil))) [2, 3]) mNil)))))
    mSkip)
    (mSeq (mIf (mOrT (mB (mBin (isND false) (mVarF 1) (mC .non))) (mTru (mIsa2 .bool .str (mVarF 1))))
    (mRet (mAnd (mBin eqD (mVarF 0) (mVarF 1)) (mAnd (mBin eqD (mIsa .bool (mVarF 0)) (mIsa .bool (mVarF 1))) (mBin eqD (mBin (isND false) (mVarF 0) (mC .non)) (mBin (isND false) (mVarF 1) (mC .non))))))
    mSkip)
    (mRet (mAnd (mIsa .int (mVarF 0)) (mAnd (mNot (mIsa .bool (mVarF 0))) (mBin eqD (mVarF 0) (mVarF 1)))))))
theorem ok__law_same (T : Tx mg g fd iA iF) : ∀ n : Nat, FnOk P w g.K mg base (L2.CX P w) (1 + n) (g.F 16) (fd 16) P__law_same (spF g 2 4 (m__law_same n))
  | 0 => okNo rfl
  | n + 1 => okF T.F__law_same sc__law_same rfl rfl (by decide) fun cdv A outer s H E hr =>
    have ih := ok__law_same T n
    (pss_mCons (ps_mIf (pt_mTru rfl (pe_mIsa2 .list .tuple rfl (by rfl) T.z_isinstance (pe_mVarF (pv 1)) (tyP (by rfl) T.z_list (by decide +kernel)) (tyP (by rfl) T.z_tuple (by decide +kernel))) (by intro _; rfl))
    (pss_mCons (ps_mIf (PW.pt (pw_mOr (pt_mCmp (op_neP hr.units) rop_ne (pe_mIsa .list rfl (by rfl) T.z_isinstance (pe_mVarF (pv 0)) (tyP (by rfl) T.z_list (by decide +kernel))) (pe_mIsa .list rfl (by rfl) T.z_isinstance (pe_mVarF (pv 1)) (tyP (by rfl) T.z_list (by decide +kernel))) (nomark _)) (pw_or1 (pt_mCmp (op_neP hr.units) rop_ne (pe_mIsa .tuple rfl (by rfl) T.z_isinstance (pe_mVarF (pv 0)) (tyP (by rfl) T.z_tuple (by decide +kernel))) (pe_mIsa .tuple rfl (by rfl) T.z_isinstance (pe_mVarF (pv 1)) (tyP (by rfl) T.z_tuple (by decide +kernel))) (nomark _)))))
    (pss_mOne (ps_mRet pe_mBl))
    pss_mNil)
    (pss_mOne (ps_mRet (pe_mAnd rfl (pe_mCmp (op_eqP hr.units) rop_eq (pe_mCallB call_len rop_len (by rfl) T.z_len (by decide +kernel) (pa_mCons (pe_mVarF (pv 0)) pa_mNil)) (pe_mCallB call_len rop_len (by rfl) T.z_len (by decide +kernel) (pa_mCons (pe_mVarF (pv 1)) pa_mNil)) (nomark _)) (pe_one (pe_mCallB (cr_all rfl) rop_all (by rfl) T.z_all (by decide +kernel) (pa_mCons (pe_mLc (own := [("mine", 2), ("its", 3)]) rfl sc__law_same.nd (pi_mZip2 rfl (by rfl) T.z_zip (pa_mCons (pe_mVarF (pv 0)) (pa_mCons (pe_mVarF (pv 1)) pa_mNil))) (blkOk_by (own := [("mine", 2), ("its", 3)]) (N := N__law_same) (sc := defScope s__law_same) (by decide +kernel)) (gok_tup [2, 3]) (by decide) (fun _ _ _ _ _ => (pg_tup (by rfl) (pgs_cons (pg_name (i := 2) sc__law_same.nd rfl (by first | exact Or.inl rfl | exact Or.inr rfl)) (pgs_cons (pg_name (i := 3) sc__law_same.nd rfl (by first | exact Or.inl rfl | exact Or.inr rfl)) pgs_nil)))) (fun _ _ _ _ _ => pts_mNil) (fun _ _ _ _ _ => (pe_mCall ih hr (by rfl) T.m__law_same T.F__law_same.kp T.b__law_same .nil passF (dfl := []) (fun _ _ => RpA.nil) hE_no (pa_mCons (pe_mVarF (pv 2)) (pa_mCons (pe_mVarF (pv 3)) pa_mNil)) (len_cons (len_cons len_nil)) rfl))) pa_mNil)))))))
    pss_mNil)
    (pss_mCons (ps_mIf (PW.pt (pw_mOr (pt_mCmp op_isN rop_isN (pe_mVarF (pv 1)) pe_mNon (nomark _)) (pw_or1 (pt_mTru rfl (pe_mIsa2 .bool .str rfl (by rfl) T.z_isinstance (pe_mVarF (pv 1)) (tyP (by rfl) T.z_bool (by decide +kernel)) (tyP (by rfl) T.z_str (by decide +kernel))) (by intro _; rfl)))))
    (pss_mOne (ps_mRet (pe_mAnd rfl (pe_mCmp (op_eqP hr.units) rop_eq (pe_mVarF (pv 0)) (pe_mVarF (pv 1)) (nomark _)) (pe_mAnd rfl (pe_mCmp (op_eqP hr.units) rop_eq (pe_mIsa .bool rfl (by rfl) T.z_isinstance (pe_mVarF (pv 0)) (tyP (by rfl) T.z_bool (by decide +kernel))) (pe_mIsa .bool rfl (by rfl) T.z_isinstance (pe_mVarF (pv 1)) (tyP (by rfl) T.z_bool (by decide +kernel))) (nomark _)) (pe_one (pe_mCmp (op_eqP hr.units) rop_eq (pe_mCmp op_isN rop_isN (pe_mVarF (pv 0)) pe_mNon (nomark _)) (pe_mCmp op_isN rop_isN (pe_mVarF (pv 1)) pe_mNon (nomark _)) (nomark _)))))))
    pss_mNil)
    (pss_mOne (ps_mRet (pe_mAnd rfl (pe_mIsa .int rfl (by rfl) T.z_isinstance (pe_mVarF (pv 0)) (tyP (by rfl) T.z_int (by decide +kernel))) (pe_mAnd rfl (pe_mNot rfl (pe_mIsa .bool rfl (by rfl) T.z_isinstance (pe_mVarF (pv 0)) (tyP (by rfl) T.z_bool (by decide +kernel)))) (pe_one (pe_mCmp (op_eqP hr.units) rop_eq (pe_mVarF (pv 0)) (pe_mVarF (pv 1)) (nomark _)))))))))
def m__law_over : MS := (mSeq (mAsg 2 (mBin ixD (mLst (mCons (mTup (mCons (mC (.int 0)) (mCons (mC (.int 0)) mNil))) (mCons (mTup (mCons (mC (.int 1)) (mCons (mC (.int 0)) mNil))) (mCons (mTup (mCons (mC (.int 0)) (mCons (mC (.int 1)) mNil))) (mCons (mTup (mCons (mNeg (mC (.int 1))) (mCons (mC (.int 0)) mNil))) (mCons (mTup (mCons (mC (.int 0)) (mCons (mNeg (mC (.int 1))) mNil))) mNil)))))) (mVarF 1)))
    (mRet (mTup (mCons (mBin addKD (mBin ixD (mVarF 0) (mC (.int 0))) (mBin ixD (mVarF 2) (mC (.int 0)))) (mCons (mBin addKD (mBin ixD (mVarF 0) (mC (.int 1))) (mBin ixD (mVarF 2) (mC (.int 1)))) mNil)))))
theorem ok__law_over (T : Tx mg g fd iA iF) : FnOk P w g.K mg base (L2.CX P w) 1 (g.F 17) (fd 17) P__law_over (spF g 2 3 m__law_over) :=
  okF T.F__law_over sc__law_over rfl rfl (by decide) fun cdv A outer s H E hr =>
    (pss_mCons (ps_mAsg (i := 2) sc__law_over.nd rfl (by first | exact Or.inl rfl | exact Or.inr rfl) (pe_mIx rfl (hu_of hr) (pe_mLst (pa_mCons (pe_mTup (pa_mCons pe_mInt (pa_mCons pe_mInt pa_mNil))) (pa_mCons (pe_mTup (pa_mCons pe_mInt (pa_mCons pe_mInt pa_mNil))) (pa_mCons (pe_mTup (pa_mCons pe_mInt (pa_mCons pe_mInt pa_mNil))) (pa_mCons (pe_mTup (pa_mCons (pe_mNeg pe_mInt) (pa_mCons pe_mInt pa_mNil))) (pa_mCons (pe_mTup (pa_mCons pe_mInt (pa_mCons (pe_mNeg pe_mInt) pa_mNil))) pa_mNil)))))) (pe_mVarF (pv 1)) (fun _ _ => rfl) (fun _ _ => rfl)))
    (pss_mOne (ps_mRet (pe_mTup (pa_mCons (pe_mBin op_addK rop_addK (pe_mIx rfl (hu_of hr) (pe_mVarF (pv 0)) pe_mInt (fun _ _ => rfl) (fun _ _ => rfl)) (pe_mIx rfl (hu_of hr) (pe_mVarF (pv 2)) pe_mInt (fun _ _ => rfl) (fun _ _ => rfl))) (pa_mCons (pe_mBin op_addK rop_addK (pe_mIx rfl (hu_of hr) (pe_mVarF (pv 0)) pe_mInt (fun _ _ => rfl) (fun _ _ => rfl)) (pe_mIx rfl (hu_of hr) (pe_mVarF (pv 2)) pe_mInt (fun _ _ => rfl) (fun _ _ => rfl))) pa_mNil))))))
def m__law_plan : MS := (mSeq (mAsg 1 (mNewD (nDictA (mLc (miFun enumAF (mCons (mVarF 0) mNil)) (tgTup [7, 9]) mYes (mTup (mCons (mVarF 9) (mCons (mVarF 7) mNil))) [7, 9]))))
    (mSeq (mNew 2 (.l []))
    (mSeq (mForA 0 (tgTup [3, 4]) (mSeq (mAsg 5 (mLst (mCons (mTup (mCons (mBin subD (mVarF 3) (mC (.int 1))) (mCons (mVarF 4) mNil))) (mCons (mTup (mCons (mVarF 3) (mCons (mBin subD (mVarF 4) (mC (.int 1))) mNil))) (mCons (mTup (mCons (mBin subD (mVarF 3) (mC (.int 1))) (mCons (mBin subD (mVarF 4) (mC (.int 1))) mNil))) (mCons (mTup (mCons (mBin subD (mVarF 3) (mC (.int 1))) (mCons (mBin addKD (mVarF 4) (mC (.int 1))) mNil))) mNil))))))
    (mDrop (mApp 2 (mLc (miSeq (mVarF 5)) (tgName 9) mYes (mIfE (mB (mInB false (mVarF 9) 1)) (mBin ixD (mVarF 1) (mVarF 9)) (mC .non)) [9])))))
    (mSeq (mNew 6 (.dK []))
    (mSeq (mFor (miFun enumAF (mCons (mVarF 2) mNil)) (tgTup [7, 8]) (mForA 8 (tgName 9) (mIf (mB (mBin (isND true) (mVarF 9) (mC .non)))
    (mPut 6 (mVarF 9) (mVarF 7))
    mSkip)))
    (mSeq (mToX [10, 11] (xNew (.l []) (xDat (mLst mNil) xNil)))
    (mSeq (mFor (miFun enumAF (mCons (mVarF 0) mNil)) (tgTup [7, 12]) (mSeq (mAsg 13 (mLc (miSeq (mIxC 2 (mVarF 7))) (tgName 9) mYes (mIfE (mB (mBin (isND false) (mVarF 9) (mC .non))) (mC .non) (mIdxL (mVarF 11) (mVarF 9))) [9]))
    (mSeq (mAsg 14 (mLc (miSeq (mBin addKD (mVarF 11) (mLst (mCons (mVarF 7) mNil)))) (tgName 9) (mB (mBin gtD (mGetB2 6 (mVarF 9) (mNeg (mC (.int 1)))) (mVarF 7))) (mVarF 9) [9]))
    (mSeq (mAsg 15 (mLc (miSeq (mVarF 14)) (tgName 9) mYes (mIfE (mB (mBin eqD (mVarF 9) (mVarF 7))) (mNeg (mC (.int 1))) (mIdxL (mVarF 11) (mVarF 9))) [9]))
    (mSeq (mDrop (mApp 10 (mTupK (mCons (mVarF 13) (mCons (mInB false (mCall m__law_over 3 [] (mCons (mVarF 12) (mCons (mC (.int 1)) mNil))) 1) (mCons (mInB false (mCall m__law_over 3 [] (mCons (mVarF 12) (mCons (mC (.int 2)) mNil))) 1) (mCons (mVarF 15) mNil)))))))
    (mAsg 11 (mVarF 14)))))))
    (mRet (mVarF 10)))))))))
theorem ok__law_plan (T : Tx mg g fd iA iF) : FnOk P w g.K mg base (L2.CX P w) 2 (g.F 18) (fd 18) P__law_plan (spF g 1 16 m__law_plan) :=
  okF T.F__law_plan sc__law_plan rfl rfl (by decide) fun cdv A outer s H E hr =>
    have tk := takes_of (E := E) rfl rfl rfl rfl
    (pss_mCons (ps_mAsg (i := 1) sc__law_plan.nd rfl (by first | exact Or.inl rfl | exact Or.inr rfl) (pe_mNewD (pe_nDictA (i := 1000) rfl hr.units rfl (by rfl) T.z_dict (pe_mLc (own := [("k", 7), ("own", 9)]) rfl sc__law_plan.nd (pi_mEnumA rfl (by rfl) T.z_enumerate (pa_mCons (pe_mVarF (pv 0)) pa_mNil)) (blkOk_by (own := [("k", 7), ("own", 9)]) (N := N__law_plan) (sc := defScope s__law_plan) (by decide +kernel)) (gok_tup [7, 9]) (by decide) (fun _ _ _ _ _ => (pg_tup (by rfl) (pgs_cons (pg_name (i := 7) sc__law_plan.nd rfl (by first | exact Or.inl rfl | exact Or.inr rfl)) (pgs_cons (pg_name (i := 9) sc__law_plan.nd rfl (by first | exact Or.inl rfl | exact Or.inr rfl)) pgs_nil)))) (fun _ _ _ _ _ => pts_mNil) (fun _ _ _ _ _ => (pe_mTup (pa_mCons (pe_mVarF (pv 9)) (pa_mCons (pe_mVarF (pv 7)) pa_mNil))))))))
    (pss_mCons (ps_mNewL (i := 2) sc__law_plan.nd rfl (by first | exact Or.inl rfl | exact Or.inr rfl))
    (pss_mCons (ps_mForA (passes_of rfl) rfl (pi_mSeq rfl (pe_mVarF (pv 0))) (pv 0) (pg_tup (by rfl) (pgs_cons (pg_name (i := 3) sc__law_plan.nd rfl (by first | exact Or.inl rfl | exact Or.inr rfl)) (pgs_cons (pg_name (i := 4) sc__law_plan.nd rfl (by first | exact Or.inl rfl | exact Or.inr rfl)) pgs_nil))) (gok_tup [3, 4]) (pss_mCons (ps_mAsg (i := 5) sc__law_plan.nd rfl (by first | exact Or.inl rfl | exact Or.inr rfl) (pe_mLst (pa_mCons (pe_mTup (pa_mCons (pe_mBin op_sub rop_sub (pe_mVarF (pv 3)) pe_mInt) (pa_mCons (pe_mVarF (pv 4)) pa_mNil))) (pa_mCons (pe_mTup (pa_mCons (pe_mVarF (pv 3)) (pa_mCons (pe_mBin op_sub rop_sub (pe_mVarF (pv 4)) pe_mInt) pa_mNil))) (pa_mCons (pe_mTup (pa_mCons (pe_mBin op_sub rop_sub (pe_mVarF (pv 3)) pe_mInt) (pa_mCons (pe_mBin op_sub rop_sub (pe_mVarF (pv 4)) pe_mInt) pa_mNil))) (pa_mCons (pe_mTup (pa_mCons (pe_mBin op_sub rop_sub (pe_mVarF (pv 3)) pe_mInt) (pa_mCons (pe_mBin op_addK rop_addK (pe_mVarF (pv 4)) pe_mInt) pa_mNil))) pa_mNil))))))
    (pss_mOne (ps_mDrop (pe_mApp rfl (pv 2) (pe_mLc (own := [("own", 9)]) rfl sc__law_plan.nd (pi_mSeq rfl (pe_mVarF (pv 5))) (blkOk_by (own := [("own", 9)]) (N := N__law_plan) (sc := defScope s__law_plan) (by decide +kernel)) (gok_name 9) (by decide) (fun _ _ _ _ _ => (pg_name (i := 9) sc__law_plan.nd rfl (by first | exact Or.inl rfl | exact Or.inr rfl))) (fun _ _ _ _ _ => pts_mNil) (fun _ _ _ _ _ => (pe_mIfE (pt_mInB (OpR.or (op_inP hr.units) (op_inDc (hu_of hr))) (pe_mVarF (pv 9)) (pv 1) (by with_unfolding_all rfl)) (pe_mIx rfl (hu_of hr) (pe_mVarF (pv 1)) (pe_mVarF (pv 9)) (fun _ _ => rfl) (fun _ _ => rfl)) pe_mNon))))))))
    (pss_mCons (ps_mNewK (i := 6) sc__law_plan.nd rfl (by first | exact Or.inl rfl | exact Or.inr rfl))
    (pss_mCons (ps_mFor (passes_of rfl) rfl (pi_mEnumA rfl (by rfl) T.z_enumerate (pa_mCons (pe_mVarF (pv 2)) pa_mNil)) (pg_tup (by rfl) (pgs_cons (pg_name (i := 7) sc__law_plan.nd rfl (by first | exact Or.inl rfl | exact Or.inr rfl)) (pgs_cons (pg_name (i := 8) sc__law_plan.nd rfl (by first | exact Or.inl rfl | exact Or.inr rfl)) pgs_nil))) (gok_tup [7, 8]) (pss_mOne (ps_mForA (passes_of rfl) rfl (pi_mSeq rfl (pe_mVarF (pv 8))) (pv 8) (pg_name (i := 9) sc__law_plan.nd rfl (by first | exact Or.inl rfl | exact Or.inr rfl)) (gok_name 9) (pss_mOne (ps_mIf (pt_mCmp op_notN rop_notN (pe_mVarF (pv 9)) pe_mNon (nomark _))
    (pss_mOne (ps_mPut (hu_of hr) (pv 6) (pe_mVarF (pv 9)) (pe_mVarF (pv 7))))
    pss_mNil)))))
    (pss_mCons (ps_mToX (is := [10, 11]) (px_new newL pe_nil_new (px_dat (pe_mLst pa_mNil) px_nil)) (pg_tup (by rfl) (pgs_cons (pg_name (i := 10) sc__law_plan.nd rfl (by first | exact Or.inl rfl | exact Or.inr rfl)) (pgs_cons (pg_name (i := 11) sc__law_plan.nd rfl (by first | exact Or.inl rfl | exact Or.inr rfl)) pgs_nil))))
    (pss_mCons (ps_mFor (passes_of rfl) rfl (pi_mEnumA rfl (by rfl) T.z_enumerate (pa_mCons (pe_mVarF (pv 0)) pa_mNil)) (pg_tup (by rfl) (pgs_cons (pg_name (i := 7) sc__law_plan.nd rfl (by first | exact Or.inl rfl | exact Or.inr rfl)) (pgs_cons (pg_name (i := 12) sc__law_plan.nd rfl (by first | exact Or.inl rfl | exact Or.inr rfl)) pgs_nil))) (gok_tup [7, 12]) (pss_mCons (ps_mLc (own := [("own", 9)]) (i := 13) rfl sc__law_plan.nd rfl rfl (sw_true rfl rfl rfl (by decide +kernel)) (pi_mSeq rfl (pe_mIxC rfl (hu_of hr) (pv 2) (pe_mVarF (pv 7)) (fun _ _ => rfl) (fun _ _ => rfl))) (blkOk_by (own := [("own", 9)]) (N := N__law_plan) (sc := defScope s__law_plan) (by decide +kernel)) (gok_name 9) (by decide) (fun _ _ _ _ _ => (pg_name (i := 9) sc__law_plan.nd rfl (by first | exact Or.inl rfl | exact Or.inr rfl))) (fun _ _ _ _ _ => pts_mNil) (fun _ _ _ _ _ => (pe_mIfE (pt_mCmp op_isN rop_isN (pe_mVarF (pv 9)) pe_mNon (nomark _)) pe_mNon (pe_mIdxL rfl (pe_mVarF (pv 11)) (pe_mVarF (pv 9))))))
    (pss_mCons (ps_mLc (own := [("own", 9)]) (i := 14) rfl sc__law_plan.nd rfl rfl (sw_true rfl rfl rfl (by decide +kernel)) (pi_mSeq rfl (pe_mBin op_addK rop_addK (pe_mVarF (pv 11)) (pe_mLst (pa_mCons (pe_mVarF (pv 7)) pa_mNil)))) (blkOk_by (own := [("own", 9)]) (N := N__law_plan) (sc := defScope s__law_plan) (by decide +kernel)) (gok_name 9) (by decide) (fun _ _ _ _ _ => (pg_name (i := 9) sc__law_plan.nd rfl (by first | exact Or.inl rfl | exact Or.inr rfl))) (fun _ _ _ _ _ => (pts_one (pt_mCmp (OpR.or (op_gt) (op_gtP hr.units)) ROp.ord (pe_mGetB2 (hu_of hr) (pv 6) (pe_mVarF (pv 9)) (pe_mNeg pe_mInt)) (pe_mVarF (pv 7)) (nomark _)))) (fun _ _ _ _ _ => (pe_mVarF (pv 9))))
    (pss_mCons (ps_mLc (own := [("own", 9)]) (i := 15) rfl sc__law_plan.nd rfl rfl (sw_true rfl rfl rfl (by decide +kernel)) (pi_mSeq rfl (pe_mVarF (pv 14))) (blkOk_by (own := [("own", 9)]) (N := N__law_plan) (sc := defScope s__law_plan) (by decide +kernel)) (gok_name 9) (by decide) (fun _ _ _ _ _ => (pg_name (i := 9) sc__law_plan.nd rfl (by first | exact Or.inl rfl | exact Or.inr rfl))) (fun _ _ _ _ _ => pts_mNil) (fun _ _ _ _ _ => (pe_mIfE (pt_mCmp (op_eqP hr.units) rop_eq (pe_mVarF (pv 9)) (pe_mVarF (pv 7)) (nomark _)) (pe_mNeg pe_mInt) (pe_mIdxL rfl (pe_mVarF (pv 11)) (pe_mVarF (pv 9))))))
    (pss_mCons (ps_mDrop (pe_mApp rfl (pv 10) (pe_mTupK (pa_mCons (pe_mVarF (pv 13)) (pa_mCons (pe_mInB (OpR.or (op_inP hr.units) (op_inDc (hu_of hr))) (pe_mCall (ok__law_over T) (hr.mono (by decide)) (by rfl) T.m__law_over T.F__law_over.kp T.b__law_over .nil (passT tk) (dfl := []) (fun _ _ => RpA.nil) hE_of (pa_mCons (pe_mVarF (pv 12)) (pa_mCons pe_mInt pa_mNil)) (len_cons (len_cons len_nil)) rfl) (pv 1) (by with_unfolding_all rfl)) (pa_mCons (pe_mInB (OpR.or (op_inP hr.units) (op_inDc (hu_of hr))) (pe_mCall (ok__law_over T) (hr.mono (by decide)) (by rfl) T.m__law_over T.F__law_over.kp T.b__law_over .nil (passT tk) (dfl := []) (fun _ _ => RpA.nil) hE_of (pa_mCons (pe_mVarF (pv 12)) (pa_mCons pe_mInt pa_mNil)) (len_cons (len_cons len_nil)) rfl) (pv 1) (by with_unfolding_all rfl)) (pa_mCons (pe_mVarF (pv 15)) pa_mNil)))))))
    (pss_mOne (ps_mAsg (i := 11) sc__law_plan.nd rfl (by first | exact Or.inl rfl | exact Or.inr rfl) (pe_mVarF (pv 14)))))))))
    (pss_mOne (ps_mRet (pe_mVarF (pv 10)))))))))))
def m__law_kinds_next : MS := (mSeq (mAsg 3 (mLc (miSeq (mBin ixD (mVarF 0) (mC (.int 0)))) (tgName 9) mYes (mIfE (mB (mBin (isND false) (mVarF 9) (mC .non))) (mC .non) (mBin ixD (mVarF 1) (mVarF 9))) [9]))
    (mSeq (mTo (tgTL [4, 5, 6, 7]) (mVarF 3))
    (mSeq (mIf (mAndT (mB (mBin eqD (mVarF 4) (mC (.int 1)))) (mB (mBin eqD (mVarF 5) (mC (.int 2)))))
    (mRet (mLst mNil))
    mSkip)
    (mSeq (mIf (mOrT (mB (mBin eqD (mVarF 4) (mC (.int 1)))) (mB (mBin eqD (mVarF 5) (mC (.int 2)))))
    (mAsg 8 (mLst (mCons (mIfE (mB (mBin eqD (mVarF 4) (mC (.int 1)))) (mC (.int 3)) (mC (.int 4))) mNil)))
    (mSeq (mAsg 8 (mBin addKD (mBin addKD (mLst (mCons (mC (.int 0)) mNil)) (mBin mulKD (mLst (mCons (mC (.int 1)) mNil)) (mFun intD (mCons (mBin ixD (mVarF 0) (mC (.int 1))) mNil)))) (mBin mulKD (mLst (mCons (mC (.int 2)) mNil)) (mFun intD (mCons (mAnd (mBin ixD (mVarF 0) (mC (.int 2))) (mBin neD (mVarF 7) (mC (.int 1)))) mNil)))))
    (mIf (mAndT (mB (mBin (inD true) (mC .non) (mSlK (mVarF 3) mPN (mPS (mC (.int 3)))))) (mB (mBin (inD true) (mVarF 6) (mTup (mCons (mC (.int 1)) (mCons (mC (.int 2)) mNil))))))
    (mAsg 8 (mLst mNil))
    mSkip)))
    (mRet (mLc (miSeq (mVarF 8)) (tgName 9) (mB (mInB false (mVarF 9) 2)) (mVarF 9) [9]))))))
theorem ok__law_kinds_next (T : Tx mg g fd iA iF) : FnOk P w g.K mg base (L2.CX P w) 1 (g.F 19) (fd 19) P__law_kinds_next (spF g 3 10 m__law_kinds_next) :=
  okF T.F__law_kinds_next sc__law_kinds_next rfl rfl (by decide) fun cdv A outer s H E hr =>
    (pss_mCons (ps_mLc (own := [("own", 9)]) (i := 3) rfl sc__law_kinds_next.nd rfl rfl (sw_true rfl rfl rfl (by decide +kernel)) (pi_mSeq rfl (pe_mIx rfl (hu_of hr) (pe_mVarF (pv 0)) pe_mInt (fun _ _ => rfl) (fun _ _ => rfl))) (blkOk_by (own := [("own", 9)]) (N := N__law_kinds_next) (sc := defScope s__law_kinds_next) (by decide +kernel)) (gok_name 9) (by decide) (fun _ _ _ _ _ => (pg_name (i := 9) sc__law_kinds_next.nd rfl (by first | exact Or.inl rfl | exact Or.inr rfl))) (fun _ _ _ _ _ => pts_mNil) (fun _ _ _ _ _ => (pe_mIfE (pt_mCmp op_isN rop_isN (pe_mVarF (pv 9)) pe_mNon (nomark _)) pe_mNon (pe_mIx rfl (hu_of hr) (pe_mVarF (pv 1)) (pe_mVarF (pv 9)) (fun _ _ => rfl) (fun _ _ => rfl)))))
    (pss_mCons (ps_mTo (pe_mVarF (pv 3)) (pg_tl (by rfl) (pgs_cons (pg_name (i := 4) sc__law_kinds_next.nd rfl (by first | exact Or.inl rfl | exact Or.inr rfl)) (pgs_cons (pg_name (i := 5) sc__law_kinds_next.nd rfl (by first | exact Or.inl rfl | exact Or.inr rfl)) (pgs_cons (pg_name (i := 6) sc__law_kinds_next.nd rfl (by first | exact Or.inl rfl | exact Or.inr rfl)) (pgs_cons (pg_name (i := 7) sc__law_kinds_next.nd rfl (by first | exact Or.inl rfl | exact Or.inr rfl)) pgs_nil))))) (gok_tl [4, 5, 6, 7]))
    (pss_mCons (ps_mIf (PW.pt (pw_mAnd (pt_mCmp (op_eqP hr.units) rop_eq (pe_mVarF (pv 4)) pe_mInt (nomark _)) (pw_and1 (pt_mCmp (op_eqP hr.units) rop_eq (pe_mVarF (pv 5)) pe_mInt (nomark _)))))
    (pss_mOne (ps_mRet (pe_mLst pa_mNil)))
    pss_mNil)
    (pss_mCons (ps_mIf (PW.pt (pw_mOr (pt_mCmp (op_eqP hr.units) rop_eq (pe_mVarF (pv 4)) pe_mInt (nomark _)) (pw_or1 (pt_mCmp (op_eqP hr.units) rop_eq (pe_mVarF (pv 5)) pe_mInt (nomark _)))))
    (pss_mOne (ps_mAsg (i := 8) sc__law_kinds_next.nd rfl (by first | exact Or.inl rfl | exact Or.inr rfl) (pe_mLst (pa_mCons (pe_mIfE (pt_mCmp (op_eqP hr.units) rop_eq (pe_mVarF (pv 4)) pe_mInt (nomark _)) pe_mInt pe_mInt) pa_mNil))))
    (pss_mCons (ps_mAsg (i := 8) sc__law_kinds_next.nd rfl (by first | exact Or.inl rfl | exact Or.inr rfl) (pe_mBin op_addK rop_addK (pe_mBin op_addK rop_addK (pe_mLst (pa_mCons pe_mInt pa_mNil)) (pe_mBin op_mulU rop_mulK (pe_mLst (pa_mCons pe_mInt pa_mNil)) (pe_mCallT call_int1 rop_int (by rfl) T.z_int (by decide +kernel) (pa_mCons (pe_mIx rfl (hu_of hr) (pe_mVarF (pv 0)) pe_mInt (fun _ _ => rfl) (fun _ _ => rfl)) pa_mNil)))) (pe_mBin op_mulU rop_mulK (pe_mLst (pa_mCons pe_mInt pa_mNil)) (pe_mCallT call_int1 rop_int (by rfl) T.z_int (by decide +kernel) (pa_mCons (pe_mAnd rfl (pe_mIx rfl (hu_of hr) (pe_mVarF (pv 0)) pe_mInt (fun _ _ => rfl) (fun _ _ => rfl)) (pe_one (pe_mCmp (op_neP hr.units) rop_ne (pe_mVarF (pv 7)) pe_mInt (nomark _)))) pa_mNil)))))
    (pss_mOne (ps_mIf (PW.pt (pw_mAnd (pt_mCmp (OpR.or (op_notInP hr.units) (op_notInDc (hu_of hr))) (rop_in true) pe_mNon (pe_mSlK rfl (pe_mVarF (pv 3)) po_mN (po_mS pe_mInt)) (by with_unfolding_all rfl)) (pw_and1 (pt_mCmp (OpR.or (op_notInP hr.units) (op_notInDc (hu_of hr))) (rop_in true) (pe_mVarF (pv 6)) (pe_mTup (pa_mCons pe_mInt (pa_mCons pe_mInt pa_mNil))) (by with_unfolding_all rfl)))))
    (pss_mOne (ps_mAsg (i := 8) sc__law_kinds_next.nd rfl (by first | exact Or.inl rfl | exact Or.inr rfl) (pe_mLst pa_mNil)))
    pss_mNil))))
    (pss_mOne (ps_mRet (pe_mLc (own := [("own", 9)]) rfl sc__law_kinds_next.nd (pi_mSeq rfl (pe_mVarF (pv 8))) (blkOk_by (own := [("own", 9)]) (N := N__law_kinds_next) (sc := defScope s__law_kinds_next) (by decide +kernel)) (gok_name 9) (by decide) (fun _ _ _ _ _ => (pg_name (i := 9) sc__law_kinds_next.nd rfl (by first | exact Or.inl rfl | exact Or.inr rfl))) (fun _ _ _ _ _ => (pts_one (pt_mInB (OpR.or (op_inP hr.units) (op_inDc (hu_of hr))) (pe_mVarF (pv 9)) (pv 2) (by with_unfolding_all rfl)))) (fun _ _ _ _ _ => (pe_mVarF (pv 9))))))))))
def m__law_moved_on : MS := (mSeq (mAsg 3 (mIfE (mB (mBin ltD (mVarF 2) (mC (.int 3)))) (mVarF 2) (mC (.int 0))))
    (mRet (mFun tupleD (mCons (mLc (miSeq (mBin ixD (mVarF 0) (mC (.int 3)))) (tgName 4) mYes (mIfE (mB (mBin eqD (mVarF 4) (mNeg (mC (.int 1))))) (mVarF 3) (mBin ixD (mVarF 1) (mVarF 4))) [4]) mNil))))
theorem ok__law_moved_on (T : Tx mg g fd iA iF) : FnOk P w g.K mg base (L2.CX P w) 1 (g.F 20) (fd 20) P__law_moved_on (spF g 3 5 m__law_moved_on) :=
  okF T.F__law_moved_on sc__law_moved_on rfl rfl (by decide) fun cdv A outer s H E hr =>
    (pss_mCons (ps_mAsg (i := 3) sc__law_moved_on.nd rfl (by first | exact Or.inl rfl | exact Or.inr rfl) (pe_mIfE (pt_mCmp (OpR.or (op_lt) (op_ltP hr.units)) ROp.ord (pe_mVarF (pv 2)) pe_mInt (nomark _)) (pe_mVarF (pv 2)) pe_mInt))
    (pss_mOne (ps_mRet (pe_mCallT call_tuple_of rop_tuple (by rfl) T.z_tuple (by decide +kernel) (pa_mCons (pe_mLc (own := [("own", 4)]) rfl sc__law_moved_on.nd (pi_mSeq rfl (pe_mIx rfl (hu_of hr) (pe_mVarF (pv 0)) pe_mInt (fun _ _ => rfl) (fun _ _ => rfl))) (blkOk_by (own := [("own", 4)]) (N := N__law_moved_on) (sc := defScope s__law_moved_on) (by decide +kernel)) (gok_name 4) (by decide) (fun _ _ _ _ _ => (pg_name (i := 4) sc__law_moved_on.nd rfl (by first | exact Or.inl rfl | exact Or.inr rfl))) (fun _ _ _ _ _ => pts_mNil) (fun _ _ _ _ _ => (pe_mIfE (pt_mCmp (op_eqP hr.units) rop_eq (pe_mVarF (pv 4)) (pe_mNeg pe_mInt) (nomark _)) (pe_mVarF (pv 3)) (pe_mIx rfl (hu_of hr) (pe_mVarF (pv 1)) (pe_mVarF (pv 4)) (fun _ _ => rfl) (fun _ _ => rfl))))) pa_mNil)))))
def m__law_lets_of : MS := (mSeq (mAsg 2 (mNewD (nDictA (mVarF 1))))
    (mRet (mLc (miSeq (mVarF 0)) (tgName 3) mYes (mGet2 (mVarF 2) (mVarF 3) (mTupK (mCons (mC (.int 0)) (mCons (mC (.int 1)) (mCons (mC (.int 2)) (mCons (mC (.int 3)) (mCons (mC (.int 4)) mNil))))))) [3])))
theorem ok__law_lets_of (T : Tx mg g fd iA iF) : FnOk P w g.K mg base (L2.CX P w) 1 (g.F 21) (fd 21) P__law_lets_of (spF g 2 4 m__law_lets_of) :=
  okF T.F__law_lets_of sc__law_lets_of rfl rfl (by decide) fun cdv A outer s H E hr =>
    (pss_mCons (ps_mAsg (i := 2) sc__law_lets_of.nd rfl (by first | exact Or.inl rfl | exact Or.inr rfl) (pe_mNewD (pe_nDictA (i := 1000) rfl hr.units rfl (by rfl) T.z_dict (pe_mVarF (pv 1)))))
    (pss_mOne (ps_mRet (pe_mLc (own := [("own", 3)]) rfl sc__law_lets_of.nd (pi_mSeq rfl (pe_mVarF (pv 0))) (blkOk_by (own := [("own", 3)]) (N := N__law_lets_of) (sc := defScope s__law_lets_of) (by decide +kernel)) (gok_name 3) (by decide) (fun _ _ _ _ _ => (pg_name (i := 3) sc__law_lets_of.nd rfl (by first | exact Or.inl rfl | exact Or.inr rfl))) (fun _ _ _ _ _ => pts_mNil) (fun _ _ _ _ _ => (pe_mGet2 (hu_of hr) (pe_mVarF (pv 2)) (pe_mVarF (pv 3)) (pe_mTupK (pa_mCons pe_mInt (pa_mCons pe_mInt (pa_mCons pe_mInt (pa_mCons pe_mInt (pa_mCons pe_mInt pa_mNil))))))))))))
def m__law_layers : MS := (mSeq (mParX [2, 3] (xDat (mCall m__law_lets_of 4 [] (mCons (mVarF 0) (mCons (mVarF 1) mNil))) (xF (fLst (mCons (mDisp1T (mTup mNil) (mC (.int 1))) mNil)) xNil)))
    (mSeq (mFor (miFun enumAF (mCons (mCall m__law_plan 16 [] (mCons (mVarF 0) mNil)) mNil)) (tgTup [4, 5]) (mSeq (mNew 6 (.dT []))
    (mSeq (mForIX 3 (-1) (tgTup [7, 8]) (mFor (miSeq (mCall m__law_kinds_next 10 [] (mCons (mVarF 5) (mCons (mVarF 7) (mCons (mBin ixD (mVarF 2) (mVarF 4)) mNil))))) (tgName 9) (mSeq (mAsg 10 (mCall m__law_moved_on 5 [] (mCons (mVarF 5) (mCons (mVarF 7) (mCons (mVarF 9) mNil)))))
    (mPut 6 (mVarF 10) (mBin addKD (mGetB2 6 (mVarF 10) (mC (.int 0))) (mVarF 8))))))
    (mDrop (mApp 3 (mVarF 6))))))
    (mRet (mVarF 3))))
theorem ok__law_layers (T : Tx mg g fd iA iF) : FnOk P w g.K mg base (L2.CX P w) 3 (g.F 22) (fd 22) P__law_layers (spF g 2 11 m__law_layers) :=
  okF T.F__law_layers sc__law_layers rfl rfl (by decide) fun cdv A outer s H E hr =>
    have tk := takes_of (E := E) rfl rfl rfl rfl
    (pss_mCons (ps_mParX (i := 2) (j := 3) rfl sc__law_layers.nd rfl rfl (by decide) rfl rfl (px_dat (pe_mCall (ok__law_lets_of T) (hr.mono (by decide)) (by rfl) T.m__law_lets_of T.F__law_lets_of.kp T.b__law_lets_of .nil (passT tk) (dfl := []) (fun _ _ => RpA.nil) hE_of (pa_mCons (pe_mVarF (pv 0)) (pa_mCons (pe_mVarF (pv 1)) pa_mNil)) (len_cons (len_cons len_nil)) rfl) (px_f (pe_fLst (pa_mCons (pe_mDisp1T (hu_of hr) (pe_mTup pa_mNil) pe_mInt) pa_mNil)) px_nil)) (by rfl))
    (pss_mCons (ps_mFor (passes_of rfl) rfl (pi_mEnumA rfl (by rfl) T.z_enumerate (pa_mCons (pe_mCall (ok__law_plan T) (hr.mono (by decide)) (by rfl) T.m__law_plan T.F__law_plan.kp T.b__law_plan .nil (passT tk) (dfl := []) (fun _ _ => RpA.nil) hE_of (pa_mCons (pe_mVarF (pv 0)) pa_mNil) (len_cons len_nil) rfl) pa_mNil)) (pg_tup (by rfl) (pgs_cons (pg_name (i := 4) sc__law_layers.nd rfl (by first | exact Or.inl rfl | exact Or.inr rfl)) (pgs_cons (pg_name (i := 5) sc__law_layers.nd rfl (by first | exact Or.inl rfl | exact Or.inr rfl)) pgs_nil))) (gok_tup [4, 5]) (pss_mCons (ps_mNewT (i := 6) sc__law_layers.nd rfl (by first | exact Or.inl rfl | exact Or.inr rfl))
    (pss_mCons (ps_mForIX (j := (-1)) rfl (passes_of rfl) rfl (pv 3) (pe_neg1 pe_int1) (fun _ _ => rfl) (pg_tup (by rfl) (pgs_cons (pg_name (i := 7) sc__law_layers.nd rfl (by first | exact Or.inl rfl | exact Or.inr rfl)) (pgs_cons (pg_name (i := 8) sc__law_layers.nd rfl (by first | exact Or.inl rfl | exact Or.inr rfl)) pgs_nil))) (gok_tup [7, 8]) (pss_mOne (ps_mFor (passes_of rfl) rfl (pi_mSeq rfl (pe_mCall (ok__law_kinds_next T) (hr.mono (by decide)) (by rfl) T.m__law_kinds_next T.F__law_kinds_next.kp T.b__law_kinds_next .nil (passT tk) (dfl := []) (fun _ _ => RpA.nil) hE_of (pa_mCons (pe_mVarF (pv 5)) (pa_mCons (pe_mVarF (pv 7)) (pa_mCons (pe_mIx rfl (hu_of hr) (pe_mVarF (pv 2)) (pe_mVarF (pv 4)) (fun _ _ => rfl) (fun _ _ => rfl)) pa_mNil))) (len_cons (len_cons (len_cons len_nil))) rfl)) (pg_name (i := 9) sc__law_layers.nd rfl (by first | exact Or.inl rfl | exact Or.inr rfl)) (gok_name 9) (pss_mCons (ps_mAsg (i := 10) sc__law_layers.nd rfl (by first | exact Or.inl rfl | exact Or.inr rfl) (pe_mCall (ok__law_moved_on T) (hr.mono (by decide)) (by rfl) T.m__law_moved_on T.F__law_moved_on.kp T.b__law_moved_on .nil (passT tk) (dfl := []) (fun _ _ => RpA.nil) hE_of (pa_mCons (pe_mVarF (pv 5)) (pa_mCons (pe_mVarF (pv 7)) (pa_mCons (pe_mVarF (pv 9)) pa_mNil))) (len_cons (len_cons (len_cons len_nil))) rfl))
    (pss_mOne (ps_mPut (hu_of hr) (pv 6) (pe_mVarF (pv 10)) (pe_mBin op_addK rop_addK (pe_mGetB2 (hu_of hr) (pv 6) (pe_mVarF (pv 10)) pe_mInt) (pe_mVarF (pv 8)))))))))
    (pss_mOne (ps_mDrop (pe_mApp rfl (pv 3) (pe_mVarF (pv 6))))))))
    (pss_mOne (ps_mRet (pe_mVarF (pv 3))))))
def m__law_many : MS := (mRet (mFun sumD (mCons (mDValA (mBin ixD (mCall m__law_layers 11 [] (mCons (mVarF 0) (mCons (mVarF 1) mNil))) (mNeg (mC (.int 1))))) mNil)))
theorem ok__law_many (T : Tx mg g fd iA iF) : FnOk P w g.K mg base (L2.CX P w) 4 (g.F 23) (fd 23) P__law_many (spF g 2 2 m__law_many) :=
  okF T.F__law_many sc__law_many rfl rfl (by decide) fun cdv A outer s H E hr =>
    have tk := takes_of (E := E) rfl rfl rfl rfl
    (pss_mOne (ps_mRet (pe_mCallB (cr_sum rfl) rop_sum (by rfl) T.z_sum (by decide +kernel) (pa_mCons (pe_mDValA rfl (pe_mIx rfl (hu_of hr) (pe_mCall (ok__law_layers T) (hr.mono (by decide)) (by rfl) T.m__law_layers T.F__law_layers.kp T.b__law_layers .nil (passT tk) (dfl := []) (fun _ _ => RpA.nil) hE_of (pa_mCons (pe_mVarF (pv 0)) (pa_mCons (pe_mVarF (pv 1)) pa_mNil)) (len_cons (len_cons len_nil)) rfl) (pe_mNeg pe_mInt) (fun _ _ => rfl) (fun _ _ => rfl)) (by rfl) T.z_list) pa_mNil))))
def m__law_boxed : MS := (mSeq (mAsg 2 (mLst mNil))
    (mSeq (mFor (miFun rangeF (mCons (mVarF 1) mNil)) (tgName 3) (mAsg 2 (mBin addKD (mVarF 2) (mLc (miFun rangeF (mCons (mVarF 0) mNil)) (tgName 4) mYes (mTup (mCons (mVarF 3) (mCons (mVarF 4) mNil))) [4]))))
    (mRet (mFun tupleKD (mCons (mVarF 2) mNil)))))
theorem ok__law_boxed (T : Tx mg g fd iA iF) : FnOk P w g.K mg base (L2.CX P w) 1 (g.F 24) (fd 24) P__law_boxed (spF g 2 5 m__law_boxed) :=
  okF T.F__law_boxed sc__law_boxed rfl rfl (by decide) fun cdv A outer s H E hr =>
    (pss_mCons (ps_mAsg (i := 2) sc__law_boxed.nd rfl (by first | exact Or.inl rfl | exact Or.inr rfl) (pe_mLst pa_mNil))
    (pss_mCons (ps_mFor (passes_of rfl) rfl (pi_mRange (by rfl) T.z_range (pa_mCons (pe_mVarF (pv 1)) pa_mNil)) (pg_name (i := 3) sc__law_boxed.nd rfl (by first | exact Or.inl rfl | exact Or.inr rfl)) (gok_name 3) (pss_mOne (ps_mAsg (i := 2) sc__law_boxed.nd rfl (by first | exact Or.inl rfl | exact Or.inr rfl) (pe_mBin op_addK rop_addK (pe_mVarF (pv 2)) (pe_mLc (own := [("y", 4)]) rfl sc__law_boxed.nd (pi_mRange (by rfl) T.z_range (pa_mCons (pe_mVarF (pv 0)) pa_mNil)) (blkOk_by (own := [("y", 4)]) (N := N__law_boxed) (sc := defScope s__law_boxed) (by decide +kernel)) (gok_name 4) (by decide) (fun _ _ _ _ _ => (pg_name (i := 4) sc__law_boxed.nd rfl (by first | exact Or.inl rfl | exact Or.inr rfl))) (fun _ _ _ _ _ => pts_mNil) (fun _ _ _ _ _ => (pe_mTup (pa_mCons (pe_mVarF (pv 3)) (pa_mCons (pe_mVarF (pv 4)) pa_mNil)))))))))
    (pss_mOne (ps_mRet (pe_mCallT ctr_tupK rop_tupleK (by rfl) T.z_tuple (by decide +kernel) (pa_mCons (pe_mVarF (pv 2)) pa_mNil))))))
def m__law_rule_of : MS := (mSeq (mIf (mB (mBin eqD (mVarF 0) (mC (.int 1))))
    (mRet (mTupK (mCons (mC (.int 3)) (mCons (mTup (mCons (mC (.int 1)) (mCons (mC (.int 1)) mNil))) (mCons (mTup (mCons (mC (.int 1)) (mCons (mC (.int 2)) mNil))) mNil)))))
    mSkip)
    (mSeq (mIf (mB (mBin eqD (mVarF 0) (mC (.int 2))))
    (mRet (mTupK (mCons (mC (.int 5)) (mCons (mTupK (mCons (mC (.int 2)) (mCons (mC (.int 0)) (mCons (mC (.int 2)) (mCons (mNeg (mC (.int 1))) mNil))))) (mCons (mTupK (mCons (mC (.int 2)) (mCons (mC (.int 6)) (mCons (mC (.int 13)) (mCons (mC (.int 29)) mNil))))) mNil)))))
    mSkip)
    (mSeq (mIf (mB (mBin eqD (mVarF 0) (mC (.int 3))))
    (mRet (mTupK (mCons (mC (.int 9)) (mCons (mTupK (mCons (mC (.int 1)) (mCons (mC (.int 2)) (mCons (mC (.int 0)) (mCons (mC (.int 2)) (mCons (mNeg (mC (.int 1))) (mCons (mNeg (mC (.int 1))) mNil))))))) (mCons (mTupK (mCons (mC (.int 3)) (mCons (mC (.int 13)) (mCons (mC (.int 22)) (mCons (mC (.int 44)) (mCons (mC (.int 90)) (mCons (mC (.int 196)) (mCons (mC (.int 406)) (mCons (mC (.int 852)) mNil))))))))) mNil)))))
    mSkip)
    (mSeq (mIf (mB (mBin eqD (mVarF 0) (mC (.int 4))))
    (mSeq (mAsg 1 (mTupK (mCons (mC (.int 5)) (mCons (mC (.int 29)) (mCons (mC (.int 44)) (mCons (mC (.int 66)) (mCons (mC (.int 126)) (mCons (mC (.int 238)) (mCons (mC (.int 490)) (mCons (mC (.int 922)) (mCons (mC (.int 1714)) (mCons (mC (.int 3306)) (mCons (mC (.int 6246)) (mCons (mC (.int 12102)) (mCons (mC (.int 22994)) (mCons (mC (.int 43682)) mNil))))))))))))))))
    (mRet (mTupK (mCons (mC (.int 15)) (mCons (mTupK (mCons (mC (.int 1)) (mCons (mC (.int 1)) (mCons (mC (.int 1)) (mCons (mNeg (mC (.int 1))) (mCons (mC (.int 7)) (mCons (mNeg (mC (.int 7))) (mCons (mC (.int 1)) (mCons (mNeg (mC (.int 1))) (mCons (mNeg (mC (.int 1))) (mCons (mNeg (mC (.int 1))) (mCons (mC (.int 1)) mNil)))))))))))) (mCons (mVarF 1) mNil))))))
    mSkip)
    (mSeq (mAsg 1 (mTupK (mCons (mC (.int 8)) (mCons (mC (.int 68)) (mCons (mC (.int 90)) (mCons (mC (.int 126)) (mCons (mC (.int 178)) (mCons (mC (.int 325)) (mCons (mC (.int 584)) (mCons (mC (.int 1165)) (mCons (mC (.int 2030)) (mCons (mC (.int 3619)) (mCons (mC (.int 6080)) (mCons (mC (.int 10987)) (mCons (mC (.int 19362)) (mCons (mC (.int 35477)) (mCons (mC (.int 62360)) (mCons (mC (.int 111837)) mNil))))))))))))))))))
    (mRet (mTupK (mCons (mC (.int 19)) (mCons (mTupK (mCons (mC (.int 1)) (mCons (mC (.int 1)) (mCons (mNeg (mC (.int 1))) (mCons (mC (.int 3)) (mCons (mNeg (mC (.int 1))) (mCons (mC (.int 5)) (mCons (mNeg (mC (.int 2))) (mCons (mNeg (mC (.int 5))) (mCons (mNeg (mC (.int 1))) (mCons (mNeg (mC (.int 3))) (mCons (mNeg (mC (.int 1))) (mCons (mNeg (mC (.int 1))) (mCons (mC (.int 1)) (mCons (mC (.int 1)) mNil))))))))))))))) (mCons (mBin addKD (mVarF 1) (mTup (mCons (mC (.int 195614)) (mCons (mC (.int 350707)) mNil)))) mNil))))))))))
theorem ok__law_rule_of (T : Tx mg g fd iA iF) : FnOk P w g.K mg base (L2.CX P w) 1 (g.F 25) (fd 25) P__law_rule_of (spF g 1 2 m__law_rule_of) :=
  okF T.F__law_rule_of sc__law_rule_of rfl rfl (by decide) fun cdv A outer s H E hr =>
    (pss_mCons (ps_mIf (pt_mCmp (op_eqP hr.units) rop_eq (pe_mVarF (pv 0)) pe_mInt (nomark _))
    (pss_mOne (ps_mRet (pe_mTupK (pa_mCons pe_mInt (pa_mCons (pe_mTup (pa_mCons pe_mInt (pa_mCons pe_mInt pa_mNil))) (pa_mCons (pe_mTup (pa_mCons pe_mInt (pa_mCons pe_mInt pa_mNil))) pa_mNil))))))
    pss_mNil)
    (pss_mCons (ps_mIf (pt_mCmp (op_eqP hr.units) rop_eq (pe_mVarF (pv 0)) pe_mInt (nomark _))
    (pss_mOne (ps_mRet (pe_mTupK (pa_mCons pe_mInt (pa_mCons (pe_mTupK (pa_mCons pe_mInt (pa_mCons pe_mInt (pa_mCons pe_mInt (pa_mCons (pe_mNeg pe_mInt) pa_mNil))))) (pa_mCons (pe_mTupK (pa_mCons pe_mInt (pa_mCons pe_mInt (pa_mCons pe_mInt (pa_mCons pe_mInt pa_mNil))))) pa_mNil))))))
    pss_mNil)
    (pss_mCons (ps_mIf (pt_mCmp (op_eqP hr.units) rop_eq (pe_mVarF (pv 0)) pe_mInt (nomark _))
    (pss_mOne (ps_mRet (pe_mTupK (pa_mCons pe_mInt (pa_mCons (pe_mTupK (pa_mCons pe_mInt (pa_mCons pe_mInt (pa_mCons pe_mInt (pa_mCons pe_mInt (pa_mCons (pe_mNeg pe_mInt) (pa_mCons (pe_mNeg pe_mInt) pa_mNil))))))) (pa_mCons (pe_mTupK (pa_mCons pe_mInt (pa_mCons pe_mInt (pa_mCons pe_mInt (pa_mCons pe_mInt (pa_mCons pe_mInt (pa_mCons pe_mInt (pa_mCons pe_mInt (pa_mCons pe_mInt pa_mNil))))))))) pa_mNil))))))
    pss_mNil)
    (pss_mCons (ps_mIf (pt_mCmp (op_eqP hr.units) rop_eq (pe_mVarF (pv 0)) pe_mInt (nomark _))
    (pss_mCons (ps_mAsg (i := 1) sc__law_rule_of.nd rfl (by first | exact Or.inl rfl | exact Or.inr rfl) (pe_mTupK (pa_mCons pe_mInt (pa_mCons pe_mInt (pa_mCons pe_mInt (pa_mCons pe_mInt (pa_mCons pe_mInt (pa_mCons pe_mInt (pa_mCons pe_mInt (pa_mCons pe_mInt (pa_mCons pe_mInt (pa_mCons pe_mInt (pa_mCons pe_mInt (pa_mCons pe_mInt (pa_mCons pe_mInt (pa_mCons pe_mInt pa_mNil))))))))))))))))
    (pss_mOne (ps_mRet (pe_mTupK (pa_mCons pe_mInt (pa_mCons (pe_mTupK (pa_mCons pe_mInt (pa_mCons pe_mInt (pa_mCons pe_mInt (pa_mCons (pe_mNeg pe_mInt) (pa_mCons pe_mInt (pa_mCons (pe_mNeg pe_mInt) (pa_mCons pe_mInt (pa_mCons (pe_mNeg pe_mInt) (pa_mCons (pe_mNeg pe_mInt) (pa_mCons (pe_mNeg pe_mInt) (pa_mCons pe_mInt pa_mNil)))))))))))) (pa_mCons (pe_mVarF (pv 1)) pa_mNil)))))))
    pss_mNil)
    (pss_mCons (ps_mAsg (i := 1) sc__law_rule_of.nd rfl (by first | exact Or.inl rfl | exact Or.inr rfl) (pe_mTupK (pa_mCons pe_mInt (pa_mCons pe_mInt (pa_mCons pe_mInt (pa_mCons pe_mInt (pa_mCons pe_mInt (pa_mCons pe_mInt (pa_mCons pe_mInt (pa_mCons pe_mInt (pa_mCons pe_mInt (pa_mCons pe_mInt (pa_mCons pe_mInt (pa_mCons pe_mInt (pa_mCons pe_mInt (pa_mCons pe_mInt (pa_mCons pe_mInt (pa_mCons pe_mInt pa_mNil))))))))))))))))))
    (pss_mOne (ps_mRet (pe_mTupK (pa_mCons pe_mInt (pa_mCons (pe_mTupK (pa_mCons pe_mInt (pa_mCons pe_mInt (pa_mCons (pe_mNeg pe_mInt) (pa_mCons pe_mInt (pa_mCons (pe_mNeg pe_mInt) (pa_mCons pe_mInt (pa_mCons (pe_mNeg pe_mInt) (pa_mCons (pe_mNeg pe_mInt) (pa_mCons (pe_mNeg pe_mInt) (pa_mCons (pe_mNeg pe_mInt) (pa_mCons (pe_mNeg pe_mInt) (pa_mCons (pe_mNeg pe_mInt) (pa_mCons pe_mInt (pa_mCons pe_mInt pa_mNil))))))))))))))) (pa_mCons (pe_mBin op_addK rop_addK (pe_mVarF (pv 1)) (pe_mTup (pa_mCons pe_mInt (pa_mCons pe_mInt pa_mNil)))) pa_mNil)))))))))))
def m__law_counted_on : MS := (mSeq (mTo (tgTL [2, 3, 4]) (mCall m__law_rule_of 2 [] (mCons (mVarF 0) mNil)))
    (mSeq (mSetF 5 (fList (mVarF 4)))
    (mSeq (mFor (miFun rangeF (mCons (mBin subD (mVarF 1) (mLenB 5)) mNil)) (tgName 6) (mDrop (mApp 5 (mFun sumD (mCons (mLc (miFun enumAF (mCons (mVarF 3) mNil)) (tgTup [7, 8]) mYes (mBin mulKD (mVarF 8) (mIxC 5 (mBin subD (mNeg (mC (.int 1))) (mVarF 7)))) [7, 8]) mNil)))))
    (mRet (mIxC 5 (mBin subD (mVarF 1) (mC (.int 1))))))))
theorem ok__law_counted_on (T : Tx mg g fd iA iF) : FnOk P w g.K mg base (L2.CX P w) 2 (g.F 26) (fd 26) P__law_counted_on (spF g 2 9 m__law_counted_on) :=
  okF T.F__law_counted_on sc__law_counted_on rfl rfl (by decide) fun cdv A outer s H E hr =>
    have tk := takes_of (E := E) rfl rfl rfl rfl
    (pss_mCons (ps_mTo (pe_mCall (ok__law_rule_of T) (hr.mono (by decide)) (by rfl) T.m__law_rule_of T.F__law_rule_of.kp T.b__law_rule_of .nil (passT tk) (dfl := []) (fun _ _ => RpA.nil) hE_of (pa_mCons (pe_mVarF (pv 0)) pa_mNil) (len_cons len_nil) rfl) (pg_tl (by rfl) (pgs_cons (pg_name (i := 2) sc__law_counted_on.nd rfl (by first | exact Or.inl rfl | exact Or.inr rfl)) (pgs_cons (pg_name (i := 3) sc__law_counted_on.nd rfl (by first | exact Or.inl rfl | exact Or.inr rfl)) (pgs_cons (pg_name (i := 4) sc__law_counted_on.nd rfl (by first | exact Or.inl rfl | exact Or.inr rfl)) pgs_nil)))) (gok_tl [2, 3, 4]))
    (pss_mCons (ps_mSetF (i := 5) sc__law_counted_on.nd rfl (by first | exact Or.inl rfl | exact Or.inr rfl) (pe_fList rfl (by rfl) T.z_list (pe_mVarF (pv 4))))
    (pss_mCons (ps_mFor (passes_of rfl) rfl (pi_mRange (by rfl) T.z_range (pa_mCons (pe_mBin op_sub rop_sub (pe_mVarF (pv 1)) (pe_mLenB rfl (by rfl) T.z_len (pv 5) (pe_mCallB call_len rop_len (by rfl) T.z_len (by decide +kernel) (pa_mCons (pe_mVarF (pv 5)) pa_mNil)))) pa_mNil)) (pg_name (i := 6) sc__law_counted_on.nd rfl (by first | exact Or.inl rfl | exact Or.inr rfl)) (gok_name 6) (pss_mOne (ps_mDrop (pe_mApp rfl (pv 5) (pe_mCallB (cr_sum rfl) rop_sum (by rfl) T.z_sum (by decide +kernel) (pa_mCons (pe_mLc (own := [("k", 7), ("part", 8)]) rfl sc__law_counted_on.nd (pi_mEnumA rfl (by rfl) T.z_enumerate (pa_mCons (pe_mVarF (pv 3)) pa_mNil)) (blkOk_by (own := [("k", 7), ("part", 8)]) (N := N__law_counted_on) (sc := defScope s__law_counted_on) (by decide +kernel)) (gok_tup [7, 8]) (by decide) (fun _ _ _ _ _ => (pg_tup (by rfl) (pgs_cons (pg_name (i := 7) sc__law_counted_on.nd rfl (by first | exact Or.inl rfl | exact Or.inr rfl)) (pgs_cons (pg_name (i := 8) sc__law_counted_on.nd rfl (by first | exact Or.inl rfl | exact Or.inr rfl)) pgs_nil)))) (fun _ _ _ _ _ => pts_mNil) (fun _ _ _ _ _ => (pe_mBin op_mulU rop_mulK (pe_mVarF (pv 8)) (pe_mIxC rfl (hu_of hr) (pv 5) (pe_mBin op_sub rop_sub (pe_mNeg pe_mInt) (pe_mVarF (pv 7))) (fun _ _ => rfl) (fun _ _ => rfl))))) pa_mNil))))))
    (pss_mOne (ps_mRet (pe_mIxC rfl (hu_of hr) (pv 5) (pe_mBin op_sub rop_sub (pe_mVarF (pv 1)) pe_mInt) (fun _ _ => rfl) (fun _ _ => rfl)))))))
def m__law_times : MS := (mSeq (mAsg 4 (mFun lenD (mCons (mVarF 2) mNil)))
    (mSeq (mSetF 5 (fMul (mLst (mCons (mC (.int 0)) mNil)) (mBin subD (mBin mulKD (mC (.int 2)) (mVarF 4)) (mC (.int 1)))))
    (mSeq (mFor (miFun enumAF (mCons (mVarF 0) mNil)) (tgTup [6, 7]) (mFor (miFun enumAF (mCons (mVarF 1) mNil)) (tgTup [8, 9]) (mPutL 5 (mBin addKD (mVarF 6) (mVarF 8)) (mBin addKD (mIxC 5 (mBin addKD (mVarF 6) (mVarF 8))) (mBin mulKD (mVarF 7) (mVarF 9))))))
    (mSeq (mFor (miFun range3F (mCons (mBin subD (mBin mulKD (mC (.int 2)) (mVarF 4)) (mC (.int 2))) (mCons (mBin subD (mVarF 4) (mC (.int 1))) (mCons (mNeg (mC (.int 1))) mNil)))) (tgName 6) (mFor (miFun enumAF (mCons (mVarF 2) mNil)) (tgTup [8, 10]) (mPutL 5 (mBin subD (mBin subD (mVarF 6) (mC (.int 1))) (mVarF 8)) (mBin addKD (mIxC 5 (mBin subD (mBin subD (mVarF 6) (mC (.int 1))) (mVarF 8))) (mBin mulKD (mIxC 5 (mVarF 6)) (mVarF 10))))))
    (mRet (mLc (miSeq (mSlK (mVarF 5) mPN (mPS (mVarF 4)))) (tgName 11) mYes (mBin modD (mFun intD (mCons (mVarF 11) mNil)) (mVarF 3)) [11]))))))
theorem ok__law_times (T : Tx mg g fd iA iF) : FnOk P w g.K mg base (L2.CX P w) 1 (g.F 27) (fd 27) P__law_times (spF g 4 12 m__law_times) :=
  okF T.F__law_times sc__law_times rfl rfl (by decide) fun cdv A outer s H E hr =>
    (pss_mCons (ps_mAsg (i := 4) sc__law_times.nd rfl (by first | exact Or.inl rfl | exact Or.inr rfl) (pe_mCallB call_len rop_len (by rfl) T.z_len (by decide +kernel) (pa_mCons (pe_mVarF (pv 2)) pa_mNil)))
    (pss_mCons (ps_mSetF (i := 5) sc__law_times.nd rfl (by first | exact Or.inl rfl | exact Or.inr rfl) (pe_fMul (pe_mLst (pa_mCons pe_mInt pa_mNil)) (pe_mBin op_sub rop_sub (pe_mBin op_mulU rop_mulK pe_mInt (pe_mVarF (pv 4))) pe_mInt)))
    (pss_mCons (ps_mFor (passes_of rfl) rfl (pi_mEnumA rfl (by rfl) T.z_enumerate (pa_mCons (pe_mVarF (pv 0)) pa_mNil)) (pg_tup (by rfl) (pgs_cons (pg_name (i := 6) sc__law_times.nd rfl (by first | exact Or.inl rfl | exact Or.inr rfl)) (pgs_cons (pg_name (i := 7) sc__law_times.nd rfl (by first | exact Or.inl rfl | exact Or.inr rfl)) pgs_nil))) (gok_tup [6, 7]) (pss_mOne (ps_mFor (passes_of rfl) rfl (pi_mEnumA rfl (by rfl) T.z_enumerate (pa_mCons (pe_mVarF (pv 1)) pa_mNil)) (pg_tup (by rfl) (pgs_cons (pg_name (i := 8) sc__law_times.nd rfl (by first | exact Or.inl rfl | exact Or.inr rfl)) (pgs_cons (pg_name (i := 9) sc__law_times.nd rfl (by first | exact Or.inl rfl | exact Or.inr rfl)) pgs_nil))) (gok_tup [8, 9]) (pss_mOne (ps_mPutL (pv 5) (pe_mBin op_addK rop_addK (pe_mVarF (pv 6)) (pe_mVarF (pv 8))) (pe_mBin op_addK rop_addK (pe_mIxC rfl (hu_of hr) (pv 5) (pe_mBin op_addK rop_addK (pe_mVarF (pv 6)) (pe_mVarF (pv 8))) (fun _ _ => rfl) (fun _ _ => rfl)) (pe_mBin op_mulU rop_mulK (pe_mVarF (pv 7)) (pe_mVarF (pv 9)))))))))
    (pss_mCons (ps_mFor (passes_of rfl) rfl (pi_mRange3 (by rfl) T.z_range (pa_mCons (pe_mBin op_sub rop_sub (pe_mBin op_mulU rop_mulK pe_mInt (pe_mVarF (pv 4))) pe_mInt) (pa_mCons (pe_mBin op_sub rop_sub (pe_mVarF (pv 4)) pe_mInt) (pa_mCons (pe_mNeg pe_mInt) pa_mNil)))) (pg_name (i := 6) sc__law_times.nd rfl (by first | exact Or.inl rfl | exact Or.inr rfl)) (gok_name 6) (pss_mOne (ps_mFor (passes_of rfl) rfl (pi_mEnumA rfl (by rfl) T.z_enumerate (pa_mCons (pe_mVarF (pv 2)) pa_mNil)) (pg_tup (by rfl) (pgs_cons (pg_name (i := 8) sc__law_times.nd rfl (by first | exact Or.inl rfl | exact Or.inr rfl)) (pgs_cons (pg_name (i := 10) sc__law_times.nd rfl (by first | exact Or.inl rfl | exact Or.inr rfl)) pgs_nil))) (gok_tup [8, 10]) (pss_mOne (ps_mPutL (pv 5) (pe_mBin op_sub rop_sub (pe_mBin op_sub rop_sub (pe_mVarF (pv 6)) pe_mInt) (pe_mVarF (pv 8))) (pe_mBin op_addK rop_addK (pe_mIxC rfl (hu_of hr) (pv 5) (pe_mBin op_sub rop_sub (pe_mBin op_sub rop_sub (pe_mVarF (pv 6)) pe_mInt) (pe_mVarF (pv 8))) (fun _ _ => rfl) (fun _ _ => rfl)) (pe_mBin op_mulU rop_mulK (pe_mIxC rfl (hu_of hr) (pv 5) (pe_mVarF (pv 6)) (fun _ _ => rfl) (fun _ _ => rfl)) (pe_mVarF (pv 10)))))))))
    (pss_mOne (ps_mRet (pe_mLc (own := [("own", 11)]) rfl sc__law_times.nd (pi_mSeq rfl (pe_mSlK rfl (pe_mVarF (pv 5)) po_mN (po_mS (pe_mVarF (pv 4))))) (blkOk_by (own := [("own", 11)]) (N := N__law_times) (sc := defScope s__law_times) (by decide +kernel)) (gok_name 11) (by decide) (fun _ _ _ _ _ => (pg_name (i := 11) sc__law_times.nd rfl (by first | exact Or.inl rfl | exact Or.inr rfl))) (fun _ _ _ _ _ => pts_mNil) (fun _ _ _ _ _ => (pe_mBin op_mod rop_mod (pe_mCallT call_int1 rop_int (by rfl) T.z_int (by decide +kernel) (pa_mCons (pe_mVarF (pv 11)) pa_mNil)) (pe_mVarF (pv 3)))))))))))
def m__law_rest_of : MS := (mSeq (mTo (tgTL [3, 4, 5]) (mCall m__law_rule_of 2 [] (mCons (mVarF 0) mNil)))
    (mSeq (mIf (mB (mBin leD (mVarF 1) (mFun lenD (mCons (mVarF 5) mNil))))
    (mRet (mBin modD (mFun intD (mCons (mBin ixD (mVarF 5) (mBin subD (mVarF 1) (mC (.int 1)))) mNil)) (mVarF 2)))
    mSkip)
    (mSeq (mParX [6, 7, 8] (xDat (mFun lenD (mCons (mVarF 4) mNil)) (xNew (.l []) (xDat (mBin subD (mVarF 1) (mBin subD (mVarF 3) (mFun lenD (mCons (mVarF 4) mNil)))) xNil))))
    (mSeq (whileS (mB (mBin gtD (mVarF 8) (mC (.int 0)))) (mSeq (mDrop (mApp 7 (mBin modD (mFun intD (mCons (mVarF 8) mNil)) (mC (.int 2)))))
    (mAsg 8 (mBin divD (mVarF 8) (mC (.int 2))))) 1000)
    (mSeq (mAsg 9 (mBin addKD (mLst (mCons (mC (.int 1)) mNil)) (mBin mulKD (mLst (mCons (mC (.int 0)) mNil)) (mBin subD (mVarF 6) (mC (.int 1))))))
    (mSeq (mFor (miSeq (mStep (mVarF 7) mPN mPN (mPS (mNeg (mC (.int 1)))))) (tgName 10) (mSeq (mAsg 9 (mCall m__law_times 12 [] (mCons (mVarF 9) (mCons (mVarF 9) (mCons (mVarF 4) (mCons (mVarF 2) mNil))))))
    (mIf (mB (mBin eqD (mVarF 10) (mC (.int 1))))
    (mAsg 9 (mCall m__law_times 12 [] (mCons (mVarF 9) (mCons (mBin addKD (mLst (mCons (mC (.int 0)) (mCons (mC (.int 1)) mNil))) (mBin mulKD (mLst (mCons (mC (.int 0)) mNil)) (mBin subD (mVarF 6) (mC (.int 2))))) (mCons (mVarF 4) (mCons (mVarF 2) mNil))))))
    mSkip)))
    (mSeq (mAsg 11 (mSlK (mVarF 5) (mPS (mBin subD (mBin subD (mVarF 3) (mVarF 6)) (mC (.int 1)))) (mPS (mBin subD (mVarF 3) (mC (.int 1))))))
    (mRet (mBin modD (mFun intD (mCons (mFun sumD (mCons (mLc (miFun zip2F (mCons (mVarF 9) (mCons (mVarF 11) mNil))) (tgTup [12, 13]) mYes (mBin mulKD (mVarF 12) (mVarF 13)) [12, 13]) mNil)) mNil)) (mVarF 2))))))))))
theorem ok__law_rest_of (T : Tx mg g fd iA iF) : FnOk P w g.K mg base (L2.CX P w) 2 (g.F 28) (fd 28) P__law_rest_of (spF g 3 14 m__law_rest_of) :=
  okF T.F__law_rest_of sc__law_rest_of rfl rfl (by decide) fun cdv A outer s H E hr =>
    have tk := takes_of (E := E) rfl rfl rfl rfl
    (pss_mCons (ps_mTo (pe_mCall (ok__law_rule_of T) (hr.mono (by decide)) (by rfl) T.m__law_rule_of T.F__law_rule_of.kp T.b__law_rule_of .nil (passT tk) (dfl := []) (fun _ _ => RpA.nil) hE_of (pa_mCons (pe_mVarF (pv 0)) pa_mNil) (len_cons len_nil) rfl) (pg_tl (by rfl) (pgs_cons (pg_name (i := 3) sc__law_rest_of.nd rfl (by first | exact Or.inl rfl | exact Or.inr rfl)) (pgs_cons (pg_name (i := 4) sc__law_rest_of.nd rfl (by first | exact Or.inl rfl | exact Or.inr rfl)) (pgs_cons (pg_name (i := 5) sc__law_rest_of.nd rfl (by first | exact Or.inl rfl | exact Or.inr rfl)) pgs_nil)))) (gok_tl [3, 4, 5]))
    (pss_mCons (ps_mIf (pt_mCmp (OpR.or (op_le) (op_leP hr.units)) ROp.ord (pe_mVarF (pv 1)) (pe_mCallB call_len rop_len (by rfl) T.z_len (by decide +kernel) (pa_mCons (pe_mVarF (pv 5)) pa_mNil)) (nomark _))
    (pss_mOne (ps_mRet (pe_mBin op_mod rop_mod (pe_mCallT call_int1 rop_int (by rfl) T.z_int (by decide +kernel) (pa_mCons (pe_mIx rfl (hu_of hr) (pe_mVarF (pv 5)) (pe_mBin op_sub rop_sub (pe_mVarF (pv 1)) pe_mInt) (fun _ _ => rfl) (fun _ _ => rfl)) pa_mNil)) (pe_mVarF (pv 2)))))
    pss_mNil)
    (pss_mCons (ps_mParX3 (i := 6) (j := 7) (l := 8) rfl sc__law_rest_of.nd rfl rfl rfl (by decide) (by decide) (by decide) rfl rfl rfl (px_dat (pe_mCallB call_len rop_len (by rfl) T.z_len (by decide +kernel) (pa_mCons (pe_mVarF (pv 4)) pa_mNil)) (px_new newL pe_nil_new (px_dat (pe_mBin op_sub rop_sub (pe_mVarF (pv 1)) (pe_mBin op_sub rop_sub (pe_mVarF (pv 3)) (pe_mCallB call_len rop_len (by rfl) T.z_len (by decide +kernel) (pa_mCons (pe_mVarF (pv 4)) pa_mNil)))) px_nil))) (by rfl))
    (pss_mCons (ps_mWhile 1000 (passes_of rfl) (pt_mCmp (OpR.or (op_gt) (op_gtP hr.units)) ROp.ord (pe_mVarF (pv 8)) pe_mInt (nomark _)) (pss_mCons (ps_mDrop (pe_mApp rfl (pv 7) (pe_mBin op_mod rop_mod (pe_mCallT call_int1 rop_int (by rfl) T.z_int (by decide +kernel) (pa_mCons (pe_mVarF (pv 8)) pa_mNil)) pe_mInt)))
    (pss_mOne (ps_mAsg (i := 8) sc__law_rest_of.nd rfl (by first | exact Or.inl rfl | exact Or.inr rfl) (pe_mBin op_fdiv rop_div (pe_mVarF (pv 8)) pe_mInt)))))
    (pss_mCons (ps_mAsg (i := 9) sc__law_rest_of.nd rfl (by first | exact Or.inl rfl | exact Or.inr rfl) (pe_mBin op_addK rop_addK (pe_mLst (pa_mCons pe_mInt pa_mNil)) (pe_mBin op_mulU rop_mulK (pe_mLst (pa_mCons pe_mInt pa_mNil)) (pe_mBin op_sub rop_sub (pe_mVarF (pv 6)) pe_mInt))))
    (pss_mCons (ps_mFor (passes_of rfl) rfl (pi_mSeq rfl (pe_mStep rfl (pe_mVarF (pv 7)) po_mN po_mN (po_mS (pe_mNeg pe_mInt)))) (pg_name (i := 10) sc__law_rest_of.nd rfl (by first | exact Or.inl rfl | exact Or.inr rfl)) (gok_name 10) (pss_mCons (ps_mAsg (i := 9) sc__law_rest_of.nd rfl (by first | exact Or.inl rfl | exact Or.inr rfl) (pe_mCall (ok__law_times T) (hr.mono (by decide)) (by rfl) T.m__law_times T.F__law_times.kp T.b__law_times .nil (passT tk) (dfl := []) (fun _ _ => RpA.nil) hE_of (pa_mCons (pe_mVarF (pv 9)) (pa_mCons (pe_mVarF (pv 9)) (pa_mCons (pe_mVarF (pv 4)) (pa_mCons (pe_mVarF (pv 2)) pa_mNil)))) (len_cons (len_cons (len_cons (len_cons len_nil)))) rfl))
    (pss_mOne (ps_mIf (pt_mCmp (op_eqP hr.units) rop_eq (pe_mVarF (pv 10)) pe_mInt (nomark _))
    (pss_mOne (ps_mAsg (i := 9) sc__law_rest_of.nd rfl (by first | exact Or.inl rfl | exact Or.inr rfl) (pe_mCall (ok__law_times T) (hr.mono (by decide)) (by rfl) T.m__law_times T.F__law_times.kp T.b__law_times .nil (passT tk) (dfl := []) (fun _ _ => RpA.nil) hE_of (pa_mCons (pe_mVarF (pv 9)) (pa_mCons (pe_mBin op_addK rop_addK (pe_mLst (pa_mCons pe_mInt (pa_mCons pe_mInt pa_mNil))) (pe_mBin op_mulU rop_mulK (pe_mLst (pa_mCons pe_mInt pa_mNil)) (pe_mBin op_sub rop_sub (pe_mVarF (pv 6)) pe_mInt))) (pa_mCons (pe_mVarF (pv 4)) (pa_mCons (pe_mVarF (pv 2)) pa_mNil)))) (len_cons (len_cons (len_cons (len_cons len_nil)))) rfl)))
    pss_mNil))))
    (pss_mCons (ps_mAsg (i := 11) sc__law_rest_of.nd rfl (by first | exact Or.inl rfl | exact Or.inr rfl) (pe_mSlK rfl (pe_mVarF (pv 5)) (po_mS (pe_mBin op_sub rop_sub (pe_mBin op_sub rop_sub (pe_mVarF (pv 3)) (pe_mVarF (pv 6))) pe_mInt)) (po_mS (pe_mBin op_sub rop_sub (pe_mVarF (pv 3)) pe_mInt))))
    (pss_mOne (ps_mRet (pe_mBin op_mod rop_mod (pe_mCallT call_int1 rop_int (by rfl) T.z_int (by decide +kernel) (pa_mCons (pe_mCallB (cr_sum rfl) rop_sum (by rfl) T.z_sum (by decide +kernel) (pa_mCons (pe_mLc (own := [("factor", 12), ("own", 13)]) rfl sc__law_rest_of.nd (pi_mZip2 rfl (by rfl) T.z_zip (pa_mCons (pe_mVarF (pv 9)) (pa_mCons (pe_mVarF (pv 11)) pa_mNil))) (blkOk_by (own := [("factor", 12), ("own", 13)]) (N := N__law_rest_of) (sc := defScope s__law_rest_of) (by decide +kernel)) (gok_tup [12, 13]) (by decide) (fun _ _ _ _ _ => (pg_tup (by rfl) (pgs_cons (pg_name (i := 12) sc__law_rest_of.nd rfl (by first | exact Or.inl rfl | exact Or.inr rfl)) (pgs_cons (pg_name (i := 13) sc__law_rest_of.nd rfl (by first | exact Or.inl rfl | exact Or.inr rfl)) pgs_nil)))) (fun _ _ _ _ _ => pts_mNil) (fun _ _ _ _ _ => (pe_mBin op_mulU rop_mulK (pe_mVarF (pv 12)) (pe_mVarF (pv 13))))) pa_mNil)) pa_mNil)) (pe_mVarF (pv 2))))))))))))
def m__law_by_hand_right : MS := (mSeq (mAsg 0 (mBin addKD (mLc (miSeq (mTupK (mCons (mC (.int 1)) (mCons (mC (.int 2)) (mCons (mC (.int 3)) mNil))))) (tgName 2) mYes (mCall m_corridor_rule 1 [] (mCons (mVarF 2) mNil)) [2]) (mLst (mCons (mLc (miSeq (mTupK (mCons (mC (.int 1)) (mCons (mC (.int 2)) (mCons (mC (.int 3)) mNil))))) (tgName 2) mYes (mCall m_corridor_rest 9 [] (mCons (mVarF 2) (mCons (mBin powD (mC (.int 10)) (mC (.int 30))) (mCons (mC (.int 1000)) mNil)))) [2]) mNil))))
    (mSeq (mAsg 1 (mLst (mCons (mTup (mCons (mC (.int 3)) (mCons (mTup (mCons (mC (.int 1)) (mCons (mC (.int 1)) mNil))) mNil))) (mCons (mTup (mCons (mC (.int 5)) (mCons (mTupK (mCons (mC (.int 2)) (mCons (mC (.int 0)) (mCons (mC (.int 2)) (mCons (mNeg (mC (.int 1))) mNil))))) mNil))) (mCons (mTup (mCons (mC (.int 9)) (mCons (mTupK (mCons (mC (.int 1)) (mCons (mC (.int 2)) (mCons (mC (.int 0)) (mCons (mC (.int 2)) (mCons (mNeg (mC (.int 1))) (mCons (mNeg (mC (.int 1))) mNil))))))) mNil))) (mCons (mLst (mCons (mC (.int 501)) (mCons (mC (.int 537)) (mCons (mC (.int 100)) mNil)))) mNil))))))
    (mSeq (mAsg 0 (mBin addKD (mVarF 0) (mLst (mCons (mCall m_corridor_rest 9 [] (mCons (mC (.int 4)) (mCons (mC (.int 30)) (mCons (mBin powD (mC (.int 10)) (mC (.int 6))) mNil)))) (mCons (mCall m_corridor_count 7 [] (mCons (mC (.int 4)) (mCons (mC (.int 30)) mNil))) (mCons (mCall m_corridor_rest 9 [] (mCons (mC (.int 2)) (mCons (mC (.int 7)) (mCons (mC (.int 1)) mNil)))) (mCons (mCall m_corridor_rest 9 [] (mCons (mC (.int 3)) (mCons (mC (.int 1)) (mCons (mC (.int 2)) mNil)))) mNil)))))))
    (mSeq (mAsg 1 (mBin addKD (mVarF 1) (mLst (mCons (mC (.int 975774)) (mCons (mC (.int 1357975774)) (mCons (mC (.int 0)) (mCons (mC (.int 1)) mNil)))))))
    (mSeq (mAsg 0 (mBin addKD (mVarF 0) (mLst (mCons (mCallK m_corridor_rule 1 [0] (mCons (mC (.int 1)) mNil)) (mCons (mCallK m_corridor_rest 9 [2, 1, 0] (mCons (mC (.int 1000)) (mCons (mBin powD (mC (.int 10)) (mC (.int 30))) (mCons (mC (.int 1)) mNil)))) mNil)))))
    (mSeq (mAsg 0 (mBin addKD (mVarF 0) (mLst (mCons (mCallK m_corridor_count 7 [1, 0] (mCons (mC (.int 10)) (mCons (mC (.int 5)) mNil))) mNil))))
    (mRet (mCall (m__law_same 8) 4 [] (mCons (mVarF 0) (mCons (mBin addKD (mVarF 1) (mLst (mCons (mTup (mCons (mC (.int 3)) (mCons (mTup (mCons (mC (.int 1)) (mCons (mC (.int 1)) mNil))) mNil))) (mCons (mC (.int 501)) (mCons (mC (.int 3619)) mNil))))) mNil))))))))))
theorem ok__law_by_hand_right (T : Tx mg g fd iA iF) : FnOk P w g.K mg base (L2.CX P w) 10 (g.F 29) (fd 29) P__law_by_hand_right (spF g 0 3 m__law_by_hand_right) :=
  okF T.F__law_by_hand_right sc__law_by_hand_right rfl rfl (by decide) fun cdv A outer s H E hr =>
    have tk := takes_of (E := E) rfl rfl rfl rfl
    (pss_mCons (ps_mAsg (i := 0) sc__law_by_hand_right.nd rfl (by first | exact Or.inl rfl | exact Or.inr rfl) (pe_mBin op_addK rop_addK (pe_mLc (own := [("own", 2)]) rfl sc__law_by_hand_right.nd (pi_mSeq rfl (pe_mTupK (pa_mCons pe_mInt (pa_mCons pe_mInt (pa_mCons pe_mInt pa_mNil))))) (blkOk_by (own := [("own", 2)]) (N := N__law_by_hand_right) (sc := defScope s__law_by_hand_right) (by decide +kernel)) (gok_name 2) (by decide) (fun _ _ _ _ _ => (pg_name (i := 2) sc__law_by_hand_right.nd rfl (by first | exact Or.inl rfl | exact Or.inr rfl))) (fun _ _ _ _ _ => pts_mNil) (fun _ _ _ _ _ => (pe_mCall (ok_corridor_rule T) (hr.mono (by decide)) (by rfl) T.m_corridor_rule T.F_corridor_rule.kp T.b_corridor_rule .nil passF (dfl := []) (fun _ _ => RpA.nil) hE_no (pa_mCons (pe_mVarF (pv 2)) pa_mNil) (len_cons len_nil) rfl))) (pe_mLst (pa_mCons (pe_mLc (own := [("own", 2)]) rfl sc__law_by_hand_right.nd (pi_mSeq rfl (pe_mTupK (pa_mCons pe_mInt (pa_mCons pe_mInt (pa_mCons pe_mInt pa_mNil))))) (blkOk_by (own := [("own", 2)]) (N := N__law_by_hand_right) (sc := defScope s__law_by_hand_right) (by decide +kernel)) (gok_name 2) (by decide) (fun _ _ _ _ _ => (pg_name (i := 2) sc__law_by_hand_right.nd rfl (by first | exact Or.inl rfl | exact Or.inr rfl))) (fun _ _ _ _ _ => pts_mNil) (fun _ _ _ _ _ => (pe_mCall (ok_corridor_rest T) (hr.mono (by decide)) (by rfl) T.m_corridor_rest T.F_corridor_rest.kp T.b_corridor_rest .nil passF (dfl := []) (fun _ _ => RpA.nil) hE_no (pa_mCons (pe_mVarF (pv 2)) (pa_mCons (pe_mBin op_pow rop_pow pe_mInt pe_mInt) (pa_mCons pe_mInt pa_mNil))) (len_cons (len_cons (len_cons len_nil))) rfl))) pa_mNil))))
    (pss_mCons (ps_mAsg (i := 1) sc__law_by_hand_right.nd rfl (by first | exact Or.inl rfl | exact Or.inr rfl) (pe_mLst (pa_mCons (pe_mTup (pa_mCons pe_mInt (pa_mCons (pe_mTup (pa_mCons pe_mInt (pa_mCons pe_mInt pa_mNil))) pa_mNil))) (pa_mCons (pe_mTup (pa_mCons pe_mInt (pa_mCons (pe_mTupK (pa_mCons pe_mInt (pa_mCons pe_mInt (pa_mCons pe_mInt (pa_mCons (pe_mNeg pe_mInt) pa_mNil))))) pa_mNil))) (pa_mCons (pe_mTup (pa_mCons pe_mInt (pa_mCons (pe_mTupK (pa_mCons pe_mInt (pa_mCons pe_mInt (pa_mCons pe_mInt (pa_mCons pe_mInt (pa_mCons (pe_mNeg pe_mInt) (pa_mCons (pe_mNeg pe_mInt) pa_mNil))))))) pa_mNil))) (pa_mCons (pe_mLst (pa_mCons pe_mInt (pa_mCons pe_mInt (pa_mCons pe_mInt pa_mNil)))) pa_mNil))))))
    (pss_mCons (ps_mAsg (i := 0) sc__law_by_hand_right.nd rfl (by first | exact Or.inl rfl | exact Or.inr rfl) (pe_mBin op_addK rop_addK (pe_mVarF (pv 0)) (pe_mLst (pa_mCons (pe_mCall (ok_corridor_rest T) (hr.mono (by decide)) (by rfl) T.m_corridor_rest T.F_corridor_rest.kp T.b_corridor_rest .nil (passT tk) (dfl := []) (fun _ _ => RpA.nil) hE_of (pa_mCons pe_mInt (pa_mCons pe_mInt (pa_mCons (pe_mBin op_pow rop_pow pe_mInt pe_mInt) pa_mNil))) (len_cons (len_cons (len_cons len_nil))) rfl) (pa_mCons (pe_mCall (ok_corridor_count T) (hr.mono (by decide)) (by rfl) T.m_corridor_count T.F_corridor_count.kp T.b_corridor_count .nil (passT tk) (dfl := []) (fun _ _ => RpA.nil) hE_of (pa_mCons pe_mInt (pa_mCons pe_mInt pa_mNil)) (len_cons (len_cons len_nil)) rfl) (pa_mCons (pe_mCall (ok_corridor_rest T) (hr.mono (by decide)) (by rfl) T.m_corridor_rest T.F_corridor_rest.kp T.b_corridor_rest .nil (passT tk) (dfl := []) (fun _ _ => RpA.nil) hE_of (pa_mCons pe_mInt (pa_mCons pe_mInt (pa_mCons pe_mInt pa_mNil))) (len_cons (len_cons (len_cons len_nil))) rfl) (pa_mCons (pe_mCall (ok_corridor_rest T) (hr.mono (by decide)) (by rfl) T.m_corridor_rest T.F_corridor_rest.kp T.b_corridor_rest .nil (passT tk) (dfl := []) (fun _ _ => RpA.nil) hE_of (pa_mCons pe_mInt (pa_mCons pe_mInt (pa_mCons pe_mInt pa_mNil))) (len_cons (len_cons (len_cons len_nil))) rfl) pa_mNil)))))))
    (pss_mCons (ps_mAsg (i := 1) sc__law_by_hand_right.nd rfl (by first | exact Or.inl rfl | exact Or.inr rfl) (pe_mBin op_addK rop_addK (pe_mVarF (pv 1)) (pe_mLst (pa_mCons pe_mInt (pa_mCons pe_mInt (pa_mCons pe_mInt (pa_mCons pe_mInt pa_mNil)))))))
    (pss_mCons (ps_mAsg (i := 0) sc__law_by_hand_right.nd rfl (by first | exact Or.inl rfl | exact Or.inr rfl) (pe_mBin op_addK rop_addK (pe_mVarF (pv 0)) (pe_mLst (pa_mCons (pe_mCallK (ok_corridor_rule T) (hr.mono (by decide)) (by rfl) T.m_corridor_rule T.F_corridor_rule.kp T.w_corridor_rule_0 (passT tk) hE_of (pk_mCons pe_mInt pk_mNil) (lenK (len_cons len_nil) fun xs h => match xs, h with | [_], _ => rfl) rfl) (pa_mCons (pe_mCallK (ok_corridor_rest T) (hr.mono (by decide)) (by rfl) T.m_corridor_rest T.F_corridor_rest.kp T.w_corridor_rest_0 (passT tk) hE_of (pk_mCons pe_mInt (pk_mCons (pe_mBin op_pow rop_pow pe_mInt pe_mInt) (pk_mCons pe_mInt pk_mNil))) (lenK (len_cons (len_cons (len_cons len_nil))) fun xs h => match xs, h with | [_, _, _], _ => rfl) rfl) pa_mNil)))))
    (pss_mCons (ps_mAsg (i := 0) sc__law_by_hand_right.nd rfl (by first | exact Or.inl rfl | exact Or.inr rfl) (pe_mBin op_addK rop_addK (pe_mVarF (pv 0)) (pe_mLst (pa_mCons (pe_mCallK (ok_corridor_count T) (hr.mono (by decide)) (by rfl) T.m_corridor_count T.F_corridor_count.kp T.w_corridor_count_0 (passT tk) hE_of (pk_mCons pe_mInt (pk_mCons pe_mInt pk_mNil)) (lenK (len_cons (len_cons len_nil)) fun xs h => match xs, h with | [_, _], _ => rfl) rfl) pa_mNil))))
    (pss_mOne (ps_mRet (pe_mCall (ok__law_same T 8) (hr.mono (by decide)) (by rfl) T.m__law_same T.F__law_same.kp T.b__law_same .nil (passT tk) (dfl := []) (fun _ _ => RpA.nil) hE_of (pa_mCons (pe_mVarF (pv 0)) (pa_mCons (pe_mBin op_addK rop_addK (pe_mVarF (pv 1)) (pe_mLst (pa_mCons (pe_mTup (pa_mCons pe_mInt (pa_mCons (pe_mTup (pa_mCons pe_mInt (pa_mCons pe_mInt pa_mNil))) pa_mNil))) (pa_mCons pe_mInt (pa_mCons pe_mInt pa_mNil))))) pa_mNil)) (len_cons (len_cons len_nil)) rfl)))))))))
def m__law_right : MS := (mSeq (mAsg 1 (mBin addKD (mC (.int 1)) (mCallR m__law_take 6 [] (rRef 0 (rDat (mC (.int 4)) rNil)))))
    (mSeq (mAsg 2 (mCall m__law_rule_of 2 [] (mCons (mVarF 1) mNil)))
    (mSeq (mAsg 3 (mBin addKD (mC (.int 1)) (mCallR m__law_take 6 [] (rRef 0 (rDat (mBin ixD (mTupK (mCons (mC (.int 30)) (mCons (mC (.int 90)) (mCons (mC (.int 200)) mNil)))) (mCallR m__law_take 6 [] (rRef 0 (rDat (mC (.int 3)) rNil)))) rNil)))))
    (mSeq (mSetF 4 (fLst (mCons (mCall m_corridor_rule 1 [] (mCons (mVarF 1) mNil)) (mCons (mCall m_corridor_count 7 [] (mCons (mVarF 1) (mCons (mVarF 3) mNil))) mNil))))
    (mSeq (mSetF 5 (fLst (mCons (mTup (mCons (mBin ixD (mVarF 2) (mC (.int 0))) (mCons (mBin ixD (mVarF 2) (mC (.int 1))) mNil))) (mCons (mCall m__law_counted_on 9 [] (mCons (mVarF 1) (mCons (mVarF 3) mNil))) mNil))))
    (mSeq (mAsg 6 (mBin addKD (mC (.int 1)) (mCallR m__law_take 6 [] (rRef 0 (rDat (mBin ixD (mTupK (mCons (mC (.int 12)) (mCons (mC (.int 1000)) (mCons (mBin powD (mC (.int 10)) (mC (.int 6))) mNil)))) (mCallR m__law_take 6 [] (rRef 0 (rDat (mC (.int 3)) rNil)))) rNil)))))
    (mSeq (mDrop (mApp 4 (mCall m_corridor_rest 9 [] (mCons (mVarF 1) (mCons (mVarF 3) (mCons (mVarF 6) mNil))))))
    (mSeq (mDrop (mApp 5 (mBin modD (mFun intD (mCons (mIxC 5 (mC (.int 1))) mNil)) (mVarF 6))))
    (mSeq (mAsg 7 (mIfE (mB (mBin ltD (mVarF 1) (mC (.int 4)))) (mBin addKD (mC (.int 1)) (mBin mulKD (mCallR m__law_take 6 [] (rRef 0 (rDat (mBin powD (mC (.int 10)) (mC (.int 15))) rNil))) (mCallR m__law_take 6 [] (rRef 0 (rDat (mBin powD (mC (.int 10)) (mC (.int 15))) rNil))))) (mBin addKD (mC (.int 1)) (mCallR m__law_take 6 [] (rRef 0 (rDat (mBin powD (mC (.int 10)) (mC (.int 7))) rNil))))))
    (mSeq (mDrop (mApp 4 (mCall m_corridor_rest 9 [] (mCons (mVarF 1) (mCons (mVarF 7) (mCons (mVarF 6) mNil))))))
    (mSeq (mDrop (mApp 5 (mCall m__law_rest_of 14 [] (mCons (mVarF 1) (mCons (mVarF 7) (mCons (mVarF 6) mNil))))))
    (mSeq (mIf (mNotT (mTru (mCall (m__law_same 8) 4 [] (mCons (mVarF 4) (mCons (mVarF 5) mNil)))))
    (mRet (mC (.bl false)))
    mSkip)
    (mSeq (mAsg 8 (mBin addKD (mC (.int 1)) (mCallR m__law_take 6 [] (rRef 0 (rDat (mBin ixD (mTupK (mCons (mC (.int 12)) (mCons (mC (.int 9)) (mCons (mC (.int 6)) (mCons (mC (.int 3)) mNil))))) (mBin subD (mVarF 1) (mC (.int 1)))) rNil)))))
    (mRet (mCall (m__law_same 8) 4 [] (mCons (mCall m_corridor_count 7 [] (mCons (mVarF 1) (mCons (mVarF 8) mNil))) (mCons (mCall m__law_many 2 [] (mCons (mCall m__law_boxed 5 [] (mCons (mVarF 1) (mCons (mVarF 8) mNil))) (mCons (mTupK mNil) mNil))) mNil)))))))))))))))))
theorem ok__law_right (T : Tx mg g fd iA iF) : FnOk P w g.K mg base (L2.CX P w) 10 (g.F 30) (fd 30) P__law_right (spF g 1 9 m__law_right) :=
  okF T.F__law_right sc__law_right rfl rfl (by decide) fun cdv A outer s H E hr =>
    have tk := takes_of (E := E) rfl rfl rfl rfl
    (pss_mCons (ps_mAsg (i := 1) sc__law_right.nd rfl (by first | exact Or.inl rfl | exact Or.inr rfl) (pe_mBin op_addK rop_addK pe_mInt (pe_mCallR (ok__law_take T) (hr.mono (by decide)) (by rfl) T.m__law_take T.F__law_take.kp T.b__law_take .nil (passT tk) (dfl := []) (fun _ _ => RpA.nil) hE_of (pa_rRef (pv 0) (pa_rDat pe_mInt pa_rNil)) (lenR_ref (lenR_dat lenR_nil)) rfl)))
    (pss_mCons (ps_mAsg (i := 2) sc__law_right.nd rfl (by first | exact Or.inl rfl | exact Or.inr rfl) (pe_mCall (ok__law_rule_of T) (hr.mono (by decide)) (by rfl) T.m__law_rule_of T.F__law_rule_of.kp T.b__law_rule_of .nil (passT tk) (dfl := []) (fun _ _ => RpA.nil) hE_of (pa_mCons (pe_mVarF (pv 1)) pa_mNil) (len_cons len_nil) rfl))
    (pss_mCons (ps_mAsg (i := 3) sc__law_right.nd rfl (by first | exact Or.inl rfl | exact Or.inr rfl) (pe_mBin op_addK rop_addK pe_mInt (pe_mCallR (ok__law_take T) (hr.mono (by decide)) (by rfl) T.m__law_take T.F__law_take.kp T.b__law_take .nil (passT tk) (dfl := []) (fun _ _ => RpA.nil) hE_of (pa_rRef (pv 0) (pa_rDat (pe_mIx rfl (hu_of hr) (pe_mTupK (pa_mCons pe_mInt (pa_mCons pe_mInt (pa_mCons pe_mInt pa_mNil)))) (pe_mCallR (ok__law_take T) (hr.mono (by decide)) (by rfl) T.m__law_take T.F__law_take.kp T.b__law_take .nil (passT tk) (dfl := []) (fun _ _ => RpA.nil) hE_of (pa_rRef (pv 0) (pa_rDat pe_mInt pa_rNil)) (lenR_ref (lenR_dat lenR_nil)) rfl) (fun _ _ => rfl) (fun _ _ => rfl)) pa_rNil)) (lenR_ref (lenR_dat lenR_nil)) rfl)))
    (pss_mCons (ps_mSetF (i := 4) sc__law_right.nd rfl (by first | exact Or.inl rfl | exact Or.inr rfl) (pe_fLst (pa_mCons (pe_mCall (ok_corridor_rule T) (hr.mono (by decide)) (by rfl) T.m_corridor_rule T.F_corridor_rule.kp T.b_corridor_rule .nil (passT tk) (dfl := []) (fun _ _ => RpA.nil) hE_of (pa_mCons (pe_mVarF (pv 1)) pa_mNil) (len_cons len_nil) rfl) (pa_mCons (pe_mCall (ok_corridor_count T) (hr.mono (by decide)) (by rfl) T.m_corridor_count T.F_corridor_count.kp T.b_corridor_count .nil (passT tk) (dfl := []) (fun _ _ => RpA.nil) hE_of (pa_mCons (pe_mVarF (pv 1)) (pa_mCons (pe_mVarF (pv 3)) pa_mNil)) (len_cons (len_cons len_nil)) rfl) pa_mNil))))
    (pss_mCons (ps_mSetF (i := 5) sc__law_right.nd rfl (by first | exact Or.inl rfl | exact Or.inr rfl) (pe_fLst (pa_mCons (pe_mTup (pa_mCons (pe_mIx rfl (hu_of hr) (pe_mVarF (pv 2)) pe_mInt (fun _ _ => rfl) (fun _ _ => rfl)) (pa_mCons (pe_mIx rfl (hu_of hr) (pe_mVarF (pv 2)) pe_mInt (fun _ _ => rfl) (fun _ _ => rfl)) pa_mNil))) (pa_mCons (pe_mCall (ok__law_counted_on T) (hr.mono (by decide)) (by rfl) T.m__law_counted_on T.F__law_counted_on.kp T.b__law_counted_on .nil (passT tk) (dfl := []) (fun _ _ => RpA.nil) hE_of (pa_mCons (pe_mVarF (pv 1)) (pa_mCons (pe_mVarF (pv 3)) pa_mNil)) (len_cons (len_cons len_nil)) rfl) pa_mNil))))
    (pss_mCons (ps_mAsg (i := 6) sc__law_right.nd rfl (by first | exact Or.inl rfl | exact Or.inr rfl) (pe_mBin op_addK rop_addK pe_mInt (pe_mCallR (ok__law_take T) (hr.mono (by decide)) (by rfl) T.m__law_take T.F__law_take.kp T.b__law_take .nil (passT tk) (dfl := []) (fun _ _ => RpA.nil) hE_of (pa_rRef (pv 0) (pa_rDat (pe_mIx rfl (hu_of hr) (pe_mTupK (pa_mCons pe_mInt (pa_mCons pe_mInt (pa_mCons (pe_mBin op_pow rop_pow pe_mInt pe_mInt) pa_mNil)))) (pe_mCallR (ok__law_take T) (hr.mono (by decide)) (by rfl) T.m__law_take T.F__law_take.kp T.b__law_take .nil (passT tk) (dfl := []) (fun _ _ => RpA.nil) hE_of (pa_rRef (pv 0) (pa_rDat pe_mInt pa_rNil)) (lenR_ref (lenR_dat lenR_nil)) rfl) (fun _ _ => rfl) (fun _ _ => rfl)) pa_rNil)) (lenR_ref (lenR_dat lenR_nil)) rfl)))
    (pss_mCons (ps_mDrop (pe_mApp rfl (pv 4) (pe_mCall (ok_corridor_rest T) (hr.mono (by decide)) (by rfl) T.m_corridor_rest T.F_corridor_rest.kp T.b_corridor_rest .nil (passT tk) (dfl := []) (fun _ _ => RpA.nil) hE_of (pa_mCons (pe_mVarF (pv 1)) (pa_mCons (pe_mVarF (pv 3)) (pa_mCons (pe_mVarF (pv 6)) pa_mNil))) (len_cons (len_cons (len_cons len_nil))) rfl)))
    (pss_mCons (ps_mDrop (pe_mApp rfl (pv 5) (pe_mBin op_mod rop_mod (pe_mCallT call_int1 rop_int (by rfl) T.z_int (by decide +kernel) (pa_mCons (pe_mIxC rfl (hu_of hr) (pv 5) pe_mInt (fun _ _ => rfl) (fun _ _ => rfl)) pa_mNil)) (pe_mVarF (pv 6)))))
    (pss_mCons (ps_mAsg (i := 7) sc__law_right.nd rfl (by first | exact Or.inl rfl | exact Or.inr rfl) (pe_mIfE (pt_mCmp (OpR.or (op_lt) (op_ltP hr.units)) ROp.ord (pe_mVarF (pv 1)) pe_mInt (nomark _)) (pe_mBin op_addK rop_addK pe_mInt (pe_mBin op_mulU rop_mulK (pe_mCallR (ok__law_take T) (hr.mono (by decide)) (by rfl) T.m__law_take T.F__law_take.kp T.b__law_take .nil (passT tk) (dfl := []) (fun _ _ => RpA.nil) hE_of (pa_rRef (pv 0) (pa_rDat (pe_mBin op_pow rop_pow pe_mInt pe_mInt) pa_rNil)) (lenR_ref (lenR_dat lenR_nil)) rfl) (pe_mCallR (ok__law_take T) (hr.mono (by decide)) (by rfl) T.m__law_take T.F__law_take.kp T.b__law_take .nil (passT tk) (dfl := []) (fun _ _ => RpA.nil) hE_of (pa_rRef (pv 0) (pa_rDat (pe_mBin op_pow rop_pow pe_mInt pe_mInt) pa_rNil)) (lenR_ref (lenR_dat lenR_nil)) rfl))) (pe_mBin op_addK rop_addK pe_mInt (pe_mCallR (ok__law_take T) (hr.mono (by decide)) (by rfl) T.m__law_take T.F__law_take.kp T.b__law_take .nil (passT tk) (dfl := []) (fun _ _ => RpA.nil) hE_of (pa_rRef (pv 0) (pa_rDat (pe_mBin op_pow rop_pow pe_mInt pe_mInt) pa_rNil)) (lenR_ref (lenR_dat lenR_nil)) rfl))))
    (pss_mCons (ps_mDrop (pe_mApp rfl (pv 4) (pe_mCall (ok_corridor_rest T) (hr.mono (by decide)) (by rfl) T.m_corridor_rest T.F_corridor_rest.kp T.b_corridor_rest .nil (passT tk) (dfl := []) (fun _ _ => RpA.nil) hE_of (pa_mCons (pe_mVarF (pv 1)) (pa_mCons (pe_mVarF (pv 7)) (pa_mCons (pe_mVarF (pv 6)) pa_mNil))) (len_cons (len_cons (len_cons len_nil))) rfl)))
    (pss_mCons (ps_mDrop (pe_mApp rfl (pv 5) (pe_mCall (ok__law_rest_of T) (hr.mono (by decide)) (by rfl) T.m__law_rest_of T.F__law_rest_of.kp T.b__law_rest_of .nil (passT tk) (dfl := []) (fun _ _ => RpA.nil) hE_of (pa_mCons (pe_mVarF (pv 1)) (pa_mCons (pe_mVarF (pv 7)) (pa_mCons (pe_mVarF (pv 6)) pa_mNil))) (len_cons (len_cons (len_cons len_nil))) rfl)))
    (pss_mCons (ps_mIf (pt_mNot (pt_mTru rfl (pe_mCall (ok__law_same T 8) (hr.mono (by decide)) (by rfl) T.m__law_same T.F__law_same.kp T.b__law_same .nil (passT tk) (dfl := []) (fun _ _ => RpA.nil) hE_of (pa_mCons (pe_mVarF (pv 4)) (pa_mCons (pe_mVarF (pv 5)) pa_mNil)) (len_cons (len_cons len_nil)) rfl) (by intro _; rfl)))
    (pss_mOne (ps_mRet pe_mBl))
    pss_mNil)
    (pss_mCons (ps_mAsg (i := 8) sc__law_right.nd rfl (by first | exact Or.inl rfl | exact Or.inr rfl) (pe_mBin op_addK rop_addK pe_mInt (pe_mCallR (ok__law_take T) (hr.mono (by decide)) (by rfl) T.m__law_take T.F__law_take.kp T.b__law_take .nil (passT tk) (dfl := []) (fun _ _ => RpA.nil) hE_of (pa_rRef (pv 0) (pa_rDat (pe_mIx rfl (hu_of hr) (pe_mTupK (pa_mCons pe_mInt (pa_mCons pe_mInt (pa_mCons pe_mInt (pa_mCons pe_mInt pa_mNil))))) (pe_mBin op_sub rop_sub (pe_mVarF (pv 1)) pe_mInt) (fun _ _ => rfl) (fun _ _ => rfl)) pa_rNil)) (lenR_ref (lenR_dat lenR_nil)) rfl)))
    (pss_mOne (ps_mRet (pe_mCall (ok__law_same T 8) (hr.mono (by decide)) (by rfl) T.m__law_same T.F__law_same.kp T.b__law_same .nil (passT tk) (dfl := []) (fun _ _ => RpA.nil) hE_of (pa_mCons (pe_mCall (ok_corridor_count T) (hr.mono (by decide)) (by rfl) T.m_corridor_count T.F_corridor_count.kp T.b_corridor_count .nil (passT tk) (dfl := []) (fun _ _ => RpA.nil) hE_of (pa_mCons (pe_mVarF (pv 1)) (pa_mCons (pe_mVarF (pv 8)) pa_mNil)) (len_cons (len_cons len_nil)) rfl) (pa_mCons (pe_mCall (ok__law_many T) (hr.mono (by decide)) (by rfl) T.m__law_many T.F__law_many.kp T.b__law_many .nil (passT tk) (dfl := []) (fun _ _ => RpA.nil) hE_of (pa_mCons (pe_mCall (ok__law_boxed T) (hr.mono (by decide)) (by rfl) T.m__law_boxed T.F__law_boxed.kp T.b__law_boxed .nil (passT tk) (dfl := []) (fun _ _ => RpA.nil) hE_of (pa_mCons (pe_mVarF (pv 1)) (pa_mCons (pe_mVarF (pv 8)) pa_mNil)) (len_cons (len_cons len_nil)) rfl) (pa_mCons (pe_mTupK pa_mNil) pa_mNil)) (len_cons (len_cons len_nil)) rfl) pa_mNil)) (len_cons (len_cons len_nil)) rfl))))))))))))))))
def m__law_five_right : MS := (mSeq (mPar [1, 2] (mCons (mCall m__law_rule_of 2 [] (mCons (mC (.int 5)) mNil)) (mCons (mBin addKD (mC (.int 19)) (mCallR m__law_take 6 [] (rRef 0 (rDat (mC (.int 30)) rNil)))) mNil)))
    (mSeq (mAsg 3 (mCallR m__law_take 6 [] (rRef 0 (rDat (mC (.int 3)) rNil))))
    (mSeq (mIf (mB (mBin eqD (mVarF 3) (mC (.int 0))))
    (mRet (mCall (m__law_same 8) 4 [] (mCons (mCall m_corridor_rule 1 [] (mCons (mC (.int 5)) mNil)) (mCons (mTup (mCons (mBin ixD (mVarF 1) (mC (.int 0))) (mCons (mBin ixD (mVarF 1) (mC (.int 1))) mNil))) mNil))))
    mSkip)
    (mSeq (mIf (mB (mBin eqD (mVarF 3) (mC (.int 1))))
    (mRet (mCall (m__law_same 8) 4 [] (mCons (mCall m_corridor_count 7 [] (mCons (mC (.int 5)) (mCons (mVarF 2) mNil))) (mCons (mCall m__law_counted_on 9 [] (mCons (mC (.int 5)) (mCons (mVarF 2) mNil))) mNil))))
    mSkip)
    (mSeq (mAsg 4 (mBin addKD (mC (.int 1)) (mCallR m__law_take 6 [] (rRef 0 (rDat (mBin powD (mC (.int 10)) (mC (.int 6))) rNil)))))
    (mRet (mCall (m__law_same 8) 4 [] (mCons (mCall m_corridor_rest 9 [] (mCons (mC (.int 5)) (mCons (mVarF 4) (mCons (mC (.int 997)) mNil)))) (mCons (mCall m__law_rest_of 14 [] (mCons (mC (.int 5)) (mCons (mVarF 4) (mCons (mC (.int 997)) mNil)))) mNil)))))))))
theorem ok__law_five_right (T : Tx mg g fd iA iF) : FnOk P w g.K mg base (L2.CX P w) 10 (g.F 31) (fd 31) P__law_five_right (spF g 1 5 m__law_five_right) :=
  okF T.F__law_five_right sc__law_five_right rfl rfl (by decide) fun cdv A outer s H E hr =>
    have tk := takes_of (E := E) rfl rfl rfl rfl
    (pss_mCons (ps_mPar (i := 1) (j := 2) rfl sc__law_five_right.nd rfl rfl (by decide) rfl rfl (pa_mCons (pe_mCall (ok__law_rule_of T) (hr.mono (by decide)) (by rfl) T.m__law_rule_of T.F__law_rule_of.kp T.b__law_rule_of .nil (passT tk) (dfl := []) (fun _ _ => RpA.nil) hE_of (pa_mCons pe_mInt pa_mNil) (len_cons len_nil) rfl) (pa_mCons (pe_mBin op_addK rop_addK pe_mInt (pe_mCallR (ok__law_take T) (hr.mono (by decide)) (by rfl) T.m__law_take T.F__law_take.kp T.b__law_take .nil (passT tk) (dfl := []) (fun _ _ => RpA.nil) hE_of (pa_rRef (pv 0) (pa_rDat pe_mInt pa_rNil)) (lenR_ref (lenR_dat lenR_nil)) rfl)) pa_mNil)) (by rfl))
    (pss_mCons (ps_mAsg (i := 3) sc__law_five_right.nd rfl (by first | exact Or.inl rfl | exact Or.inr rfl) (pe_mCallR (ok__law_take T) (hr.mono (by decide)) (by rfl) T.m__law_take T.F__law_take.kp T.b__law_take .nil (passT tk) (dfl := []) (fun _ _ => RpA.nil) hE_of (pa_rRef (pv 0) (pa_rDat pe_mInt pa_rNil)) (lenR_ref (lenR_dat lenR_nil)) rfl))
    (pss_mCons (ps_mIf (pt_mCmp (op_eqP hr.units) rop_eq (pe_mVarF (pv 3)) pe_mInt (nomark _))
    (pss_mOne (ps_mRet (pe_mCall (ok__law_same T 8) (hr.mono (by decide)) (by rfl) T.m__law_same T.F__law_same.kp T.b__law_same .nil (passT tk) (dfl := []) (fun _ _ => RpA.nil) hE_of (pa_mCons (pe_mCall (ok_corridor_rule T) (hr.mono (by decide)) (by rfl) T.m_corridor_rule T.F_corridor_rule.kp T.b_corridor_rule .nil (passT tk) (dfl := []) (fun _ _ => RpA.nil) hE_of (pa_mCons pe_mInt pa_mNil) (len_cons len_nil) rfl) (pa_mCons (pe_mTup (pa_mCons (pe_mIx rfl (hu_of hr) (pe_mVarF (pv 1)) pe_mInt (fun _ _ => rfl) (fun _ _ => rfl)) (pa_mCons (pe_mIx rfl (hu_of hr) (pe_mVarF (pv 1)) pe_mInt (fun _ _ => rfl) (fun _ _ => rfl)) pa_mNil))) pa_mNil)) (len_cons (len_cons len_nil)) rfl)))
    pss_mNil)
    (pss_mCons (ps_mIf (pt_mCmp (op_eqP hr.units) rop_eq (pe_mVarF (pv 3)) pe_mInt (nomark _))
    (pss_mOne (ps_mRet (pe_mCall (ok__law_same T 8) (hr.mono (by decide)) (by rfl) T.m__law_same T.F__law_same.kp T.b__law_same .nil (passT tk) (dfl := []) (fun _ _ => RpA.nil) hE_of (pa_mCons (pe_mCall (ok_corridor_count T) (hr.mono (by decide)) (by rfl) T.m_corridor_count T.F_corridor_count.kp T.b_corridor_count .nil (passT tk) (dfl := []) (fun _ _ => RpA.nil) hE_of (pa_mCons pe_mInt (pa_mCons (pe_mVarF (pv 2)) pa_mNil)) (len_cons (len_cons len_nil)) rfl) (pa_mCons (pe_mCall (ok__law_counted_on T) (hr.mono (by decide)) (by rfl) T.m__law_counted_on T.F__law_counted_on.kp T.b__law_counted_on .nil (passT tk) (dfl := []) (fun _ _ => RpA.nil) hE_of (pa_mCons pe_mInt (pa_mCons (pe_mVarF (pv 2)) pa_mNil)) (len_cons (len_cons len_nil)) rfl) pa_mNil)) (len_cons (len_cons len_nil)) rfl)))
    pss_mNil)
    (pss_mCons (ps_mAsg (i := 4) sc__law_five_right.nd rfl (by first | exact Or.inl rfl | exact Or.inr rfl) (pe_mBin op_addK rop_addK pe_mInt (pe_mCallR (ok__law_take T) (hr.mono (by decide)) (by rfl) T.m__law_take T.F__law_take.kp T.b__law_take .nil (passT tk) (dfl := []) (fun _ _ => RpA.nil) hE_of (pa_rRef (pv 0) (pa_rDat (pe_mBin op_pow rop_pow pe_mInt pe_mInt) pa_rNil)) (lenR_ref (lenR_dat lenR_nil)) rfl)))
    (pss_mOne (ps_mRet (pe_mCall (ok__law_same T 8) (hr.mono (by decide)) (by rfl) T.m__law_same T.F__law_same.kp T.b__law_same .nil (passT tk) (dfl := []) (fun _ _ => RpA.nil) hE_of (pa_mCons (pe_mCall (ok_corridor_rest T) (hr.mono (by decide)) (by rfl) T.m_corridor_rest T.F_corridor_rest.kp T.b_corridor_rest .nil (passT tk) (dfl := []) (fun _ _ => RpA.nil) hE_of (pa_mCons pe_mInt (pa_mCons (pe_mVarF (pv 4)) (pa_mCons pe_mInt pa_mNil))) (len_cons (len_cons (len_cons len_nil))) rfl) (pa_mCons (pe_mCall (ok__law_rest_of T) (hr.mono (by decide)) (by rfl) T.m__law_rest_of T.F__law_rest_of.kp T.b__law_rest_of .nil (passT tk) (dfl := []) (fun _ _ => RpA.nil) hE_of (pa_mCons pe_mInt (pa_mCons (pe_mVarF (pv 4)) (pa_mCons pe_mInt pa_mNil))) (len_cons (len_cons (len_cons len_nil))) rfl) pa_mNil)) (len_cons (len_cons len_nil)) rfl))))))))
def m_law : MS := (mSeq (mIf (mNotT (mTru (mCall m__law_by_hand_right 3 [] mNil)))
    (mRet (mC (.bl false)))
    mSkip)
    (mSeq (mSetF 1 (fCall m__law_box f__law_box 3 (mCons (mCall m__law_cells 6 [] (mCons (mVarF 0) (mCons (mC (.int 1)) mNil))) (mCons (mC (.int 0)) mNil))))
    (mRet (mIfE (mB (mBin eqD (mCallR m__law_take 6 [] (rRef 1 (rDat (mC (.int 8)) rNil))) (mC (.int 0)))) (mCallR m__law_five_right 5 [] (rRef 1 rNil)) (mCallR m__law_right 9 [] (rRef 1 rNil))))))
theorem ok_law (T : Tx mg g fd iA iF) : FnOk P w g.K mg base (L2.CX P w) 11 (g.F 32) (fd 32) P_law (spF g 1 2 m_law) :=
  okF T.F_law sc_law rfl rfl (by decide) fun cdv A outer s H E hr =>
    have tk := takes_of (E := E) rfl rfl rfl rfl
    (pss_mCons (ps_mIf (pt_mNot (pt_mTru rfl (pe_mCall0 (ok__law_by_hand_right T) (hr.mono (by decide)) (by rfl) T.m__law_by_hand_right T.F__law_by_hand_right.kp T.b__law_by_hand_right (passT tk) hE_of) (by intro _; rfl)))
    (pss_mOne (ps_mRet pe_mBl))
    pss_mNil)
    (pss_mCons (ps_mSetF (i := 1) sc_law.nd rfl (by first | exact Or.inl rfl | exact Or.inr rfl) (pe_fCall (ok__law_box T) (hr.mono (by decide)) (by rfl) T.m__law_box T.F__law_box.kp T.b__law_box (passT tk) (pa_mCons (pe_mCall (ok__law_cells T) (hr.mono (by decide)) (by rfl) T.m__law_cells T.F__law_cells.kp T.b__law_cells .nil (passT tk) (dfl := []) (fun _ _ => RpA.nil) hE_of (pa_mCons (pe_mVarF (pv 0)) (pa_mCons pe_mInt pa_mNil)) (len_cons (len_cons len_nil)) rfl) (pa_mCons pe_mInt pa_mNil)) (len_cons (len_cons len_nil))))
    (pss_mOne (ps_mRet (pe_mIfE (pt_mCmp (op_eqP hr.units) rop_eq (pe_mCallR (ok__law_take T) (hr.mono (by decide)) (by rfl) T.m__law_take T.F__law_take.kp T.b__law_take .nil (passT tk) (dfl := []) (fun _ _ => RpA.nil) hE_of (pa_rRef (pv 1) (pa_rDat pe_mInt pa_rNil)) (lenR_ref (lenR_dat lenR_nil)) rfl) pe_mInt (nomark _)) (pe_mCallR (ok__law_five_right T) (hr.mono (by decide)) (by rfl) T.m__law_five_right T.F__law_five_right.kp T.b__law_five_right .nil (passT tk) (dfl := []) (fun _ _ => RpA.nil) hE_of (pa_rRef (pv 1) pa_rNil) (lenR_ref lenR_nil) rfl) (pe_mCallR (ok__law_right T) (hr.mono (by decide)) (by rfl) T.m__law_right T.F__law_right.kp T.b__law_right .nil (passT tk) (dfl := []) (fun _ _ => RpA.nil) hE_of (pa_rRef (pv 1) pa_rNil) (lenR_ref lenR_nil) rfl))))))
end
abbrev il (xs : List Int) : List D := xs.map D.int
theorem ixN_end {len k : Nat} (h : k < len) : ixN len (-1 - (k : Int)) = some (len - 1 - k) := by
  unfold ixN
  rw [if_neg (by omega), if_pos (by omega)]
  congr 1
  omega
theorem get_mid (A B : List Int) (y : Int) : (il (A ++ y :: B))[A.length]? = some (.int y) := by
  rw [List.getElem?_map, List.getElem?_append_right (Nat.le_refl _), Nat.sub_self]
  rfl
theorem set_mid (A B : List Int) (y z : Int) : (il (A ++ y :: B)).set A.length (.int z) = il (A ++ z :: B) := by
  rw [show il (A ++ y :: B) = il A ++ .int y :: il B by simp [il], List.set_append_right _ _ (by simp [il])]
  simp [il]
abbrev stE (parts : D) (n last : Int) (x4 x5 : Sl) (F : List Int) : S := ⟨[.rf 0, .d parts, .d (.int n), .d (.int last), x4, x5], [.l (il F)]⟩
abbrev redB : MS := (mPutL 0 (mBin subD (mNeg (mC (.int 1))) (mVarF 4)) (mBin modD (mBin addKD (mIxC 0 (mBin subD (mNeg (mC (.int 1))) (mVarF 4))) (mBin mulKD (mVarF 3) (mVarF 5))) (mVarF 2)))
theorem red_loop (parts : D) (n last : Int) (n0 : 0 < n) : ∀ (ps todo B : List Int) (x4 x5 : Sl), ps.length ≤ todo.length → (∀ p ∈ ps, smallI p = true) →
    ∃ x4' x5', loopS (tgTup [4, 5]) redB (enumFrom B.length (il ps)) (stE parts n last x4 x5 (todo.reverse ++ B)) = .nx (stE parts n last x4' x5' ((addp (some n) ps last todo).reverse ++ B))
  | [], todo, B, x4, x5, _, _ => ⟨x4, x5, rfl⟩
  | c :: ps, [], B, x4, x5, h, _ => by simp at h
  | c :: ps, y :: ys, B, x4, x5, h, hs => by
    have e0 : (y :: ys).reverse ++ B = ys.reverse ++ y :: B := by rw [List.reverse_cons, List.append_assoc]; rfl
    have hk : B.length < (il (ys.reverse ++ y :: B)).length := by simp [il]; omega
    have hi : (il (ys.reverse ++ y :: B)).length - 1 - B.length = ys.reverse.length := by simp [il]
    have s1 : stE parts n last (.d (.int B.length)) (.d (.int c)) (ys.reverse ++ y :: B) = stE parts n last (.d (.int B.length)) (.d (.int c)) (ys.reverse ++ y :: B) := rfl
    have eI : mIxC 0 (mBin subD (mNeg (mC (.int 1))) (mVarF 4)) (stE parts n last (.d (.int B.length)) (.d (.int c)) (ys.reverse ++ y :: B)) = .ok (.int y) (stE parts n last (.d (.int B.length)) (.d (.int c)) (ys.reverse ++ y :: B)) := by
      show optO (atD (il (ys.reverse ++ y :: B)) (-1 - (B.length : Int))) _ = _
      unfold atD
      rw [ixN_end hk, hi]
      show optO ((il (ys.reverse ++ y :: B))[ys.reverse.length]?) _ = _
      rw [get_mid]
      rfl
    have eM : mBin mulKD (mVarF 3) (mVarF 5) (stE parts n last (.d (.int B.length)) (.d (.int c)) (ys.reverse ++ y :: B)) = .ok (.int (last * c)) (stE parts n last (.d (.int B.length)) (.d (.int c)) (ys.reverse ++ y :: B)) := by
      refine bin_at (a := .int last) (b := .int c) rfl rfl ?_
      show (if (smallI last || smallI c) = true then some (D.int (last * c)) else none) = _
      rw [hs c (List.mem_cons_self ..), Bool.or_true, if_pos rfl]
    have eV : (mBin modD (mBin addKD (mIxC 0 (mBin subD (mNeg (mC (.int 1))) (mVarF 4))) (mBin mulKD (mVarF 3) (mVarF 5))) (mVarF 2)) (stE parts n last (.d (.int B.length)) (.d (.int c)) (ys.reverse ++ y :: B)) = .ok (.int ((y + last * c) % n)) (stE parts n last (.d (.int B.length)) (.d (.int c)) (ys.reverse ++ y :: B)) :=
      bin_at (bin_at eI eM (d := .int (y + last * c)) rfl) rfl (mod_at _ n n0)
    have eP : redB (stE parts n last (.d (.int B.length)) (.d (.int c)) (ys.reverse ++ y :: B)) = .nx (stE parts n last (.d (.int B.length)) (.d (.int c)) (ys.reverse ++ ((y + last * c) % n) :: B)) := by
      unfold redB mPutL
      rw [eV]
      show (match ixN (il (ys.reverse ++ y :: B)).length (-1 - (B.length : Int)) with
        | some m => SO.nx ((stE parts n last (.d (.int B.length)) (.d (.int c)) (ys.reverse ++ y :: B)).setC 0 (.l ((il (ys.reverse ++ y :: B)).set m (.int ((y + last * c) % n)))))
        | none => .no) = _
      rw [ixN_end hk, hi]
      show SO.nx (S.setC _ 0 (.l ((il (ys.reverse ++ y :: B)).set ys.reverse.length (.int ((y + last * c) % n))))) = _
      rw [set_mid]
      rfl
    obtain ⟨x4', x5', e⟩ := red_loop parts n last n0 ps ys (((y + last * c) % n) :: B) (.d (.int B.length)) (.d (.int c)) (by simpa using h) fun p m => hs p (List.mem_cons_of_mem _ m)
    refine ⟨x4', x5', ?_⟩
    rw [e0]
    show (match redB (stE parts n last (.d (.int B.length)) (.d (.int c)) (ys.reverse ++ y :: B)) with
      | .nx st2 => loopS (tgTup [4, 5]) redB (enumFrom (B.length + 1) (il ps)) st2
      | .ct st2 => loopS (tgTup [4, 5]) redB (enumFrom (B.length + 1) (il ps)) st2
      | .bk st2 => .nx st2
      | o => o) = _
    rw [eP]
    refine Eq.trans e ?_
    show SO.nx (stE parts n last x4' x5' ((addp (some n) ps last ys).reverse ++ (((y + last * c) % n) :: B))) = SO.nx (stE parts n last x4' x5' ((((y + last * c) % n) :: addp (some n) ps last ys).reverse ++ B))
    rw [List.reverse_cons, List.append_assoc]
    rfl
abbrev redW : MS := (mSeq (mAsg 3 (mPop 0))
    (mFor (miFun enumAF (mCons (mVarF 1) mNil)) (tgTup [4, 5]) redB))
abbrev stF (parts : D) (n : Int) (x3 x4 x5 : Sl) (F : List Int) : S := ⟨[.rf 0, .d parts, .d (.int n), x3, x4, x5], [.l (il F)]⟩
theorem pop_end (r : List Int) (l : Int) : (il (l :: r).reverse)[(il (l :: r).reverse).length - 1]? = some (.int l) ∧ (il (l :: r).reverse).dropLast = il r.reverse := by
  rw [List.reverse_cons, show il (r.reverse ++ [l]) = il r.reverse ++ [.int l] by simp [il]]
  exact ⟨by simp, by simp⟩
theorem addp_small (n : Int) (n0 : 0 < n) : ∀ (ps : List Int) (l : Int) (r : List Int), ps.length = r.length → ∀ c ∈ addp (some n) ps l r, 0 ≤ c ∧ c < n
  | [], l, [], _, c, m => nomatch m
  | [], l, _ :: _, h, _, _ => by simp at h
  | _ :: _, l, [], h, _, _ => by simp at h
  | p :: ps, l, y :: r, h, c, m => by
    rcases List.mem_cons.mp m with rfl | m
    · exact ⟨Int.emod_nonneg _ (by omega), Int.emod_lt_of_pos _ n0⟩
    · exact addp_small n n0 ps l r (by simpa using h) c m
def redV (ps : List Int) (n : Int) : Nat → List Int → List Int
  | 0, r => r
  | _ + 1, [] => []
  | k + 1, l :: r => if ps.length < r.length + 1 then redV ps n k (addp (some n) ps l r) else l :: r
theorem red_while (ps : List Int) (n : Int) (n0 : 0 < n) (hs : ∀ p ∈ ps, smallI p = true) (h1 : 1 ≤ ps.length) : ∀ (k : Nat) (r : List Int) (x3 x4 x5 : Sl), 1 ≤ k → r.length + 1 ≤ k + ps.length → r.length ≤ 1000 →
    ∃ (r' : List Int) (x3' x4' x5' : Sl), whileS (mB (mBin gtD (mLenB 0) (mFun lenD (mCons (mVarF 1) mNil)))) redW k (stF (.kt (il ps)) n x3 x4 x5 r.reverse) = .nx (stF (.kt (il ps)) n x3' x4' x5' r'.reverse) ∧ r' = redV ps n k r ∧ r'.length = min r.length ps.length ∧ (r.length ≤ ps.length → r' = r) ∧ (ps.length < r.length → ∀ c ∈ r', 0 ≤ c ∧ c < n) ∧ ∀ u a, Goes u ps → Rep u n r.reverse a → Rep u n r'.reverse a
  | 0, r, x3, x4, x5, z, _, _ => by omega
  | k + 1, r, x3, x4, x5, _, h, hl => by
    have c : (mB (mBin gtD (mLenB 0) (mFun lenD (mCons (mVarF 1) mNil)))) (stF (.kt (il ps)) n x3 x4 x5 r.reverse) = .ok (decide ((ps.length : Int) < (r.length : Int))) (stF (.kt (il ps)) n x3 x4 x5 r.reverse) := by
      refine b_at (bin_at (st1 := stF (.kt (il ps)) n x3 x4 x5 r.reverse) (a := .int (r.length : Nat)) (b := .int (ps.length : Nat)) ?_ (fun_at (cons_at (st1 := stF (.kt (il ps)) n x3 x4 x5 r.reverse) rfl rfl) ?_) rfl)
      · show O.ok (D.int ((il r.reverse).length : Nat)) _ = _
        simp [il]
      · show some (D.int ((il ps).length : Nat)) = _
        simp [il]
    by_cases hlt : (ps.length : Int) < (r.length : Int)
    · rw [decide_eq_true hlt] at c
      cases r with
      | nil => simp at hlt; omega
      | cons l r =>
        simp only [List.length_cons] at h hl hlt
        obtain ⟨g1, g2⟩ := pop_end r l
        have e1 : (mAsg 3 (mPop 0)) (stF (.kt (il ps)) n x3 x4 x5 (l :: r).reverse) = .nx (stF (.kt (il ps)) n (.d (.int l)) x4 x5 r.reverse) := by
          refine (asg_at (d := .int l) (st1 := stF (.kt (il ps)) n x3 x4 x5 r.reverse) ?_).trans rfl
          show (match (il (l :: r).reverse)[(il (l :: r).reverse).length - 1]? with
            | some d => O.ok d (S.setC (stF (.kt (il ps)) n x3 x4 x5 (l :: r).reverse) 0 (.l (il (l :: r).reverse).dropLast))
            | none => .no) = _
          rw [g1, g2]
          rfl
        obtain ⟨x4', x5', e2⟩ := red_loop (.kt (il ps)) n l n0 ps r [] x4 x5 (by omega) hs
        rw [List.append_nil, List.append_nil] at e2
        have e3 : redW (stF (.kt (il ps)) n x3 x4 x5 (l :: r).reverse) = .nx (stF (.kt (il ps)) n (.d (.int l)) x4' x5' (addp (some n) ps l r).reverse) := seq_to e1 e2
        obtain ⟨r', x3'', x4'', x5'', e4, ev, e5, e7, e8, e6⟩ := red_while ps n n0 hs h1 k (addp (some n) ps l r) (.d (.int l)) x4' x5' (by omega) (by rw [addp_len]; omega) (by rw [addp_len]; omega)
        refine ⟨r', x3'', x4'', x5'', ?_, by rw [ev]; conv => rhs; unfold redV; rw [if_pos (by omega)], by rw [e5, addp_len, List.length_cons]; omega, fun z => by rw [List.length_cons] at z; omega, fun _ => (by
          by_cases eq : r.length = ps.length
          · rw [e7 (by rw [addp_len]; omega)]
            exact addp_small n n0 ps l r eq.symm
          · exact e8 (by rw [addp_len]; omega)), fun u a g R => e6 u a g (Rep.strike g (.inr rfl) (by omega) R)⟩
        unfold whileS
        rw [c]
        show (match redW (stF (.kt (il ps)) n x3 x4 x5 (l :: r).reverse) with
          | .nx st2 => whileS (mB (mBin gtD (mLenB 0) (mFun lenD (mCons (mVarF 1) mNil)))) redW k st2
          | .ct st2 => whileS (mB (mBin gtD (mLenB 0) (mFun lenD (mCons (mVarF 1) mNil)))) redW k st2
          | .bk st2 => .nx st2
          | o => o) = _
        rw [e3]
        exact e4
    · rw [decide_eq_false hlt] at c
      refine ⟨r, x3, x4, x5, ?_, by cases r with | nil => rfl | cons l r => (unfold redV; rw [if_neg (by simp only [List.length_cons] at hlt; omega)]), by omega, fun _ => rfl, fun z => by omega, fun u a g R => R⟩
      unfold whileS
      rw [c]
theorem reduced_ex (ps : List Int) (n : Int) (n0 : 0 < n) (hs : ∀ p ∈ ps, smallI p = true) (h1 : 1 ≤ ps.length) (F : List Int) (hF : F.length ≤ 100) (hp : ps.length ≤ 100) :
    ∃ F' : List Int, Rn m_reduced 6 [.lst (il F), .kt (il ps), .int n] (.lst (il F')) ∧ F' = (redV ps n 1000 F.reverse).reverse ∧ F'.length = min F.length ps.length ∧ (F.length ≤ ps.length → F' = F) ∧ (ps.length < F.length → ∀ c ∈ F', 0 ≤ c ∧ c < n) ∧ ∀ u a, Goes u ps → Rep u n F a → Rep u n F' a := by
  obtain ⟨r', x3', x4', x5', e, ev, e2, e4, e5, e3⟩ := red_while ps n n0 hs h1 1000 F.reverse .no .no .no (by decide) (by rw [List.length_reverse]; omega) (by rw [List.length_reverse]; omega)
  rw [List.reverse_reverse] at e e3
  rw [List.length_reverse] at e4 e5
  refine ⟨r'.reverse, ?_, by rw [ev], by rw [List.length_reverse, e2, List.length_reverse], fun z => by rw [e4 z, List.reverse_reverse], fun z c m => e5 z c (List.mem_reverse.mp m), e3⟩
  refine rn (st' := (stF (.kt (il ps)) n x3' x4' x5' r'.reverse).frz 0 (.lst (il r'.reverse))) ?_
  unfold m_reduced
  exact seq_to (st1 := stF (.kt (il ps)) n .no .no .no F) rfl (seq_to e rfl)
theorem addAt_step (c x : Int) : ∀ (k : Nat) (q f : List Int) (y : Int), f[k]? = some y → addAt k c (x :: q) f = addAt (k + 1) c q (f.set k (y + c * x))
  | _, q, [], y, h => by simp at h
  | 0, q, z :: f, y, h => by
    cases Option.some.inj (show some z = some y from h)
    show (z + c * x) :: addAt 0 c q f = addAt 1 c q ((z + c * x) :: f)
    conv => rhs; unfold addAt
  | k + 1, q, z :: f, y, h => by
    have h' : f[k]? = some y := by simpa using h
    show addAt (k + 1) c (x :: q) (z :: f) = addAt (k + 1 + 1) c q (z :: f.set k (y + c * x))
    conv => lhs; unfold addAt
    conv => rhs; unfold addAt
    rw [addAt_step c x k q f y h']
theorem addAt_nil (c : Int) : ∀ (k : Nat) (f : List Int), addAt k c [] f = f
  | _, [] => by unfold addAt; rfl
  | 0, _ :: _ => by unfold addAt; rfl
  | k + 1, z :: f => by
    conv => lhs; unfold addAt
    rw [addAt_nil c k f]
theorem il_set (G : List Int) (j : Nat) (z : Int) : (il G).set j (.int z) = il (G.set j z) := by
  simp [il, List.map_set]
theorem augL_at {f : D → D → Option D} {i k : Nat} {mk mv : M} {st : S} {j : Int} {ds : List D} {old z r : D} (h1 : st.cellOf i = some k) (h2 : mk st = .ok (.int j) st) (h3 : 0 ≤ j) (h4 : st.ce[k]? = some (.l ds)) (h5 : ds[j.toNat]? = some old) (h6 : mv st = .ok z st) (h7 : f old z = some r) :
    mAugL f i mk mv st = .nx (st.setC k (.l (ds.set j.toNat r))) := by
  have lt : j.toNat < ds.length := (List.getElem?_eq_some_iff.mp h5).1
  unfold mAugL
  simp only [h1, h2, bindS, if_pos h3, h4, h5, h6, h7, if_pos lt]
theorem fmul_at {ma mb : M} {st st1 st2 : S} {ds : List D} {k : Int} (ha : ma st = .ok (.lst ds) st1) (hb : mb st1 = .ok (.int k) st2) (h0 : 0 ≤ k) (h1 : k ≤ 1000) (h2 : ds.length ≤ 100) : fMul ma mb st = .ok (List.replicate k.toNat ds).flatten st2 := by
  unfold fMul
  simp only [ha, hb, bindO]
  rw [if_pos ⟨h0, h1, h2⟩]
abbrev stT (F : List Int) (P : D) (n : Int) (x4 x5 x6 x7 : Sl) (G : List Int) : S := ⟨[.d (.lst (il F)), .d P, .d (.int n), .rf 0, x4, x5, x6, x7], [.l (il G)]⟩
abbrev tmB : MS := (mAugL addI 3 (mBin addKD (mVarF 4) (mVarF 6)) (mBin mulKD (mVarF 5) (mVarF 7)))
theorem tm_in (F : List Int) (P : D) (n : Int) (i : Nat) (c : Int) (hc : smallI c = true) : ∀ (q : List Int) (k : Nat) (G : List Int) (x6 x7 : Sl), i + k + q.length ≤ G.length →
    ∃ x6' x7', loopS (tgTup [6, 7]) tmB (enumFrom k (il q)) (stT F P n (.d (.int i)) (.d (.int c)) x6 x7 G) = .nx (stT F P n (.d (.int i)) (.d (.int c)) x6' x7' (addAt (i + k) c q G))
  | [], k, G, x6, x7, _ => ⟨x6, x7, by rw [addAt_nil]; rfl⟩
  | x :: q, k, G, x6, x7, h => by
    simp only [List.length_cons] at h
    obtain ⟨y, hy⟩ : ∃ y, G[i + k]? = some y := ⟨_, List.getElem?_eq_getElem (by omega)⟩
    have e1 : tmB (stT F P n (.d (.int i)) (.d (.int c)) (.d (.int k)) (.d (.int x)) G) = .nx (stT F P n (.d (.int i)) (.d (.int c)) (.d (.int k)) (.d (.int x)) (G.set (i + k) (y + c * x))) := by
      have hm : mBin mulKD (mVarF 5) (mVarF 7) (stT F P n (.d (.int i)) (.d (.int c)) (.d (.int k)) (.d (.int x)) G) = .ok (.int (c * x)) (stT F P n (.d (.int i)) (.d (.int c)) (.d (.int k)) (.d (.int x)) G) := by
        refine bin_at (a := .int c) (b := .int x) rfl rfl ?_
        show (if (smallI c || smallI x) = true then some (D.int (c * x)) else none) = _
        rw [hc, Bool.true_or, if_pos rfl]
      have ht : ((i : Int) + (k : Int)).toNat = i + k := by omega
      refine (augL_at (f := addI) (i := 3) (k := 0) (mk := (mBin addKD (mVarF 4) (mVarF 6))) (j := (i : Int) + (k : Int)) (ds := il G) (old := .int y) (z := .int (c * x)) (r := .int (y + c * x)) rfl (bin_at (f := addKD) (a := .int i) (b := .int k) rfl rfl rfl) (by omega) rfl (by rw [ht, List.getElem?_map, hy]; rfl) hm rfl).trans ?_
      rw [ht, il_set]
      rfl
    obtain ⟨x6', x7', e⟩ := tm_in F P n i c hc q (k + 1) (G.set (i + k) (y + c * x)) (.d (.int k)) (.d (.int x)) (by rw [List.length_set]; omega)
    refine ⟨x6', x7', ?_⟩
    show (match tmB (stT F P n (.d (.int i)) (.d (.int c)) (.d (.int k)) (.d (.int x)) G) with
      | .nx st2 => loopS (tgTup [6, 7]) tmB (enumFrom (k + 1) (il q)) st2
      | .ct st2 => loopS (tgTup [6, 7]) tmB (enumFrom (k + 1) (il q)) st2
      | .bk st2 => .nx st2
      | o => o) = _
    rw [e1, addAt_step c x (i + k) q G y hy]
    exact e
abbrev tmO : MS := (mFor (miFun enumAF (mCons (mVarF 0) mNil)) (tgTup [6, 7]) tmB)
theorem tm_out (F : List Int) (P : D) (n : Int) : ∀ (p : List Int) (i : Nat) (G : List Int) (x4 x5 x6 x7 : Sl), (∀ c ∈ p, smallI c = true) → i + p.length + F.length ≤ G.length + 1 →
    ∃ x4' x5' x6' x7', loopS (tgTup [4, 5]) tmO (enumFrom i (il p)) (stT F P n x4 x5 x6 x7 G) = .nx (stT F P n x4' x5' x6' x7' (convA i p F G))
  | [], i, G, x4, x5, x6, x7, _, _ => ⟨x4, x5, x6, x7, rfl⟩
  | c :: p, i, G, x4, x5, x6, x7, hs, h => by
    simp only [List.length_cons] at h
    obtain ⟨x6', x7', e1⟩ := tm_in F P n i c (hs c (List.mem_cons_self ..)) F 0 G x6 x7 (by omega)
    obtain ⟨x4'', x5'', x6'', x7'', e2⟩ := tm_out F P n p (i + 1) (addAt i c F G) (.d (.int i)) (.d (.int c)) x6' x7' (fun z m => hs z (List.mem_cons_of_mem _ m)) (by rw [addAt_len]; omega)
    refine ⟨x4'', x5'', x6'', x7'', ?_⟩
    have e1 : tmO (stT F P n (.d (.int i)) (.d (.int c)) x6 x7 G) = .nx (stT F P n (.d (.int i)) (.d (.int c)) x6' x7' (addAt i c F G)) := e1
    show (match tmO (stT F P n (.d (.int i)) (.d (.int c)) x6 x7 G) with
      | .nx st2 => loopS (tgTup [4, 5]) tmO (enumFrom (i + 1) (il p)) st2
      | .ct st2 => loopS (tgTup [4, 5]) tmO (enumFrom (i + 1) (il p)) st2
      | .bk st2 => .nx st2
      | o => o) = _
    rw [e1]
    exact e2
def timV (ps : List Int) (n : Int) (F : List Int) : List Int := (redV ps n 1000 (convA 0 F F (List.replicate (2 * F.length - 1) 0)).reverse).reverse
/-- times: a power by a power -/
theorem times_ex (ps : List Int) (n : Int) (n0 : 0 < n) (hs : ∀ p ∈ ps, smallI p = true) (h1 : 1 ≤ ps.length) (hp : ps.length ≤ 50) (F : List Int) (hF : 1 ≤ F.length) (hF2 : F.length ≤ ps.length) (hc : ∀ c ∈ F, smallI c = true) :
    ∃ F' : List Int, Rn m_times 8 [.lst (il F), .kt (il ps), .int n] (.lst (il F')) ∧ F' = timV ps n F ∧ F'.length = min (2 * F.length - 1) ps.length ∧ (2 * F.length - 1 ≤ ps.length → F' = convA 0 F F (List.replicate (2 * F.length - 1) 0)) ∧ (ps.length < 2 * F.length - 1 → ∀ c ∈ F', 0 ≤ c ∧ c < n) ∧ ∀ u a, Goes u ps → Rep u n F a → Rep u n F' (a + a) := by
  obtain ⟨x4, x5, x6, x7, e⟩ := tm_out F (.kt (il ps)) n F 0 (List.replicate (2 * F.length - 1) 0) .no .no .no .no hc (by rw [List.length_replicate]; omega)
  obtain ⟨F', e2, ev, e3, e5, e6, e4⟩ := reduced_ex ps n n0 hs h1 (convA 0 F F (List.replicate (2 * F.length - 1) 0)) (by rw [convA_len, List.length_replicate]; omega) (by omega)
  rw [convA_len, List.length_replicate] at e3 e5 e6
  refine ⟨F', ?_, ev, e3, e5, e6, fun u a g R => e4 u (a + a) g (Rep.conv R R (by omega))⟩
  refine rn (st' := (stT F (.kt (il ps)) n x4 x5 x6 x7 (convA 0 F F (List.replicate (2 * F.length - 1) 0))).frz 0 (.lst (il (convA 0 F F (List.replicate (2 * F.length - 1) 0))))) ?_
  unfold m_times
  refine seq_to (st1 := stT F (.kt (il ps)) n .no .no .no .no (List.replicate (2 * F.length - 1) 0)) ?_ (seq_to e (ret_at (call_at (as := [.lst (il (convA 0 F F (List.replicate (2 * F.length - 1) 0))), .kt (il ps), .int n]) rfl e2)))
  have hl : (mBin subD (mBin mulKD (mC (.int 2)) (mFun lenD (mCons (mVarF 0) mNil))) (mC (.int 1))) (S.start ([.lst (il F), .kt (il ps), .int n].map .d) 8 []) = .ok (.int ((2 * F.length - 1 : Nat) : Int)) (S.start ([.lst (il F), .kt (il ps), .int n].map .d) 8 []) := by
    show O.ok (D.int (2 * (((il F).length : Nat) : Int) - 1)) _ = _
    rw [List.length_map]
    congr 2
    omega
  have hz : (List.replicate (2 * F.length - 1) [D.int 0]).flatten = il (List.replicate (2 * F.length - 1) 0) := by
    simp [il]
  have hq := fmul_at (ma := mLst (mCons (mC (.int 0)) mNil)) (ds := [.int 0]) rfl hl (by omega) (by omega) (by decide)
  rw [Int.toNat_natCast, hz] at hq
  unfold mSetF
  rw [hq]
  rfl
abbrev mono (k : Nat) : List Int := List.replicate k 0 ++ [1]
theorem addAt_zeroC : ∀ (k : Nat) (q f : List Int), addAt k 0 q f = f
  | 0, q, [] => by unfold addAt; rfl
  | _ + 1, q, [] => by unfold addAt; rfl
  | 0, [], y :: f => by unfold addAt; rfl
  | 0, x :: q, y :: f => by
    conv => lhs; unfold addAt
    rw [addAt_zeroC 0 q f, Int.zero_mul, Int.add_zero]
  | k + 1, q, y :: f => by
    conv => lhs; unfold addAt
    rw [addAt_zeroC k q f]
theorem convA_zeros (p q : List Int) : ∀ (j i : Nat) (f : List Int), convA i (List.replicate j 0 ++ p) q f = convA (i + j) p q f
  | 0, i, f => rfl
  | j + 1, i, f => by
    rw [List.replicate_succ, List.cons_append]
    show convA (i + 1) (List.replicate j 0 ++ p) q (addAt i 0 q f) = _
    rw [addAt_zeroC, convA_zeros p q j (i + 1) f, show i + 1 + j = i + (j + 1) by omega]
theorem addAt_pre (c : Int) (q B : List Int) : ∀ (k : Nat), addAt k c q (List.replicate k 0 ++ B) = List.replicate k 0 ++ addAt 0 c q B
  | 0 => rfl
  | k + 1 => by
    rw [List.replicate_succ, List.cons_append]
    conv => lhs; unfold addAt
    rw [addAt_pre c q B k]
    rfl
theorem addAt_all : ∀ q : List Int, addAt 0 1 q (List.replicate q.length 0) = q
  | [] => by unfold addAt; rfl
  | x :: q => by
    rw [List.length_cons, List.replicate_succ]
    conv => lhs; unfold addAt
    rw [addAt_all q, Int.one_mul, Int.zero_add]
theorem conv_mono (k : Nat) : convA 0 (mono k) (mono k) (List.replicate (2 * (mono k).length - 1) 0) = mono (2 * k) := by
  rw [show 2 * (mono k).length - 1 = k + (mono k).length by simp; omega, convA_zeros, Nat.zero_add]
  show addAt k 1 (mono k) (List.replicate (k + (mono k).length) 0) = _
  rw [← List.replicate_append_replicate, addAt_pre, addAt_all, ← List.append_assoc, List.replicate_append_replicate, show k + k = 2 * k by omega]
/-- factors as they are met: the power itself, or all below n -/
def Fine (n : Int) (d : Nat) (F : List Int) : Prop := (∃ k, F = mono k) ∨ (F.length = d ∧ ∀ c ∈ F, 0 ≤ c ∧ c < n)
theorem if_to {t : MT} {a b : MS} {st st1 : S} {o : SO} (h : t st = .ok true st1) (k : a st1 = o) : mIf t a b st = o := by
  rw [if_c h]
  exact k
theorem Fine.small {n : Int} {d : Nat} {F : List Int} (h : Fine n d F) (n1 : n < 18446744073709551616) : ∀ c ∈ F, smallI c = true := fun c m => by
  rcases h with ⟨k, rfl⟩ | h
  · rcases List.mem_append.mp m with m | m
    · rw [(List.mem_replicate.mp m).2]; decide
    · rw [List.mem_singleton.mp m]; decide
  · have := h.2 c m
    exact small_at (by omega) (by omega)
theorem bit_and (m : Nat) : Builtin.bitAnd (m : Int) 1 = ((m % 2 : Nat) : Int) := by
  unfold Builtin.bitAnd
  simp
def pl : Nat → List D
  | 0 => []
  | m + 1 => .int (m : Nat) :: pl m
theorem pl_is (m : Nat) : ((List.range m).map fun (k : Nat) => D.int (0 + ((m : Nat) : Int) - 1 + (k : Nat) * (-1))) = pl m := by
  induction m with
  | zero => rfl
  | succ m ih =>
    rw [List.range_succ_eq_map, List.map_cons, List.map_map]
    show D.int _ :: _ = D.int _ :: pl m
    rw [← ih]
    congr 1
    · congr 1
      show 0 + ((m + 1 : Nat) : Int) - 1 + ((0 : Nat) : Int) * (-1) = (m : Int)
      omega
    · refine List.map_congr_left fun k _ => ?_
      show D.int (0 + ((m + 1 : Nat) : Int) - 1 + ((k + 1 : Nat) : Int) * (-1)) = D.int (0 + ((m : Nat) : Int) - 1 + ((k : Nat) : Int) * (-1))
      congr 1
      omega
abbrev stW (far : Nat) (ps : List Int) (n : Int) (F : List Int) (x4 : Sl) : S := ⟨[.d (.int far), .d (.kt (il ps)), .d (.int n), .d (.lst (il F)), x4], []⟩
abbrev pwB : MS := (mSeq (mAsg 3 (mCall m_times 8 [] (mCons (mVarF 3) (mCons (mVarF 1) (mCons (mVarF 2) mNil)))))
    (mIf (mTru (mBin andD (mBin shrD (mVarF 0) (mVarF 4)) (mC (.int 1))))
    (mAsg 3 (mCall m_reduced 6 [] (mCons (mBin addKD (mLst (mCons (mC (.int 0)) mNil)) (mVarF 3)) (mCons (mVarF 1) (mCons (mVarF 2) mNil)))))
    mSkip))
def powV (ps : List Int) (n : Int) (far : Nat) : Nat → List Int → List Int
  | 0, F => F
  | m + 1, F => powV ps n far m (if far / 2 ^ m % 2 = 1 then (redV ps n 1000 (0 :: timV ps n F).reverse).reverse else timV ps n F)
theorem pw_loop (ps : List Int) (n : Int) (n0 : 0 < n) (n1 : n < 18446744073709551616) (hs : ∀ p ∈ ps, smallI p = true) (h2 : 2 ≤ ps.length) (hp : ps.length ≤ 50) (far : Nat) : ∀ (m : Nat) (F : List Int) (x4 : Sl), 1 ≤ F.length → F.length ≤ ps.length → Fine n ps.length F →
    ∃ (F' : List Int) (x4' : Sl), loopS (tgName 4) pwB (pl m) (stW far ps n F x4) = .nx (stW far ps n F' x4') ∧ F' = powV ps n far m F ∧ 1 ≤ F'.length ∧ F'.length ≤ ps.length ∧ Fine n ps.length F' ∧ ∀ u, Goes u ps → Rep u n F (far / 2 ^ m) → Rep u n F' far
  | 0, F, x4, f1, f2, fi => ⟨F, x4, rfl, rfl, f1, f2, fi, fun u g R => by simpa using R⟩
  | m + 1, F, x4, f1, f2, fi => by
    obtain ⟨G, e1, gv, g1, g2, g3, g4⟩ := times_ex ps n n0 hs (by omega) hp F f1 f2 (fi.small n1)
    have gf : Fine n ps.length G := by
      by_cases z : 2 * F.length - 1 ≤ ps.length
      · rw [g2 z]
        rcases fi with ⟨k, rfl⟩ | fi
        · rw [conv_mono]; exact .inl ⟨_, rfl⟩
        · have := fi.1; omega
      · exact .inr ⟨by omega, g3 (by omega)⟩
    have hd : far / 2 ^ m = far / 2 ^ (m + 1) + far / 2 ^ (m + 1) + (far / 2 ^ m) % 2 := by
      rw [Nat.pow_succ, ← Nat.div_div_eq_div_mul]
      omega
    have c : (mTru (mBin andD (mBin shrD (mVarF 0) (mVarF 4)) (mC (.int 1)))) (stW far ps n G (.d (.int m))) = .ok (decide ((far / 2 ^ m) % 2 = 1)) (stW far ps n G (.d (.int m))) := by
      refine tru_at (d := .int ((far / 2 ^ m % 2 : Nat) : Int)) (bin_at (f := andD) (a := .int ((far / 2 ^ m : Nat) : Int)) (b := .int 1) (bin_at (f := shrD) (a := .int far) (b := .int m) rfl rfl ?_) rfl ?_) ?_
      · show (if 0 ≤ ((m : Nat) : Int) then some (D.int ((far : Int) / 2 ^ ((m : Nat) : Int).toNat)) else none) = _
        rw [if_pos (by omega), Int.toNat_natCast]
        congr 2
      · show some (D.int (Builtin.bitAnd ((far / 2 ^ m : Nat) : Int) 1)) = _
        rw [bit_and]
      · show some (((far / 2 ^ m % 2 : Nat) : Int) != 0) = _
        congr 1
        rcases Nat.mod_two_eq_zero_or_one (far / 2 ^ m) with z | z <;> rw [z] <;> decide
    have e2 : (mAsg 3 (mCall m_times 8 [] (mCons (mVarF 3) (mCons (mVarF 1) (mCons (mVarF 2) mNil))))) (stW far ps n F (.d (.int m))) = .nx (stW far ps n G (.d (.int m))) := asg_at (call_at (as := [.lst (il F), .kt (il ps), .int n]) (st1 := stW far ps n F (.d (.int m))) rfl e1)
    have step : ∃ G', pwB (stW far ps n F (.d (.int m))) = .nx (stW far ps n G' (.d (.int m))) ∧ G' = (if far / 2 ^ m % 2 = 1 then (redV ps n 1000 (0 :: timV ps n F).reverse).reverse else timV ps n F) ∧ 1 ≤ G'.length ∧ G'.length ≤ ps.length ∧ Fine n ps.length G' ∧ ∀ u, Goes u ps → Rep u n F (far / 2 ^ (m + 1)) → Rep u n G' (far / 2 ^ m) := by
      by_cases z : (far / 2 ^ m) % 2 = 1
      · rw [decide_eq_true z] at c
        obtain ⟨G', r1, rv, r2, r3, r4, r5⟩ := reduced_ex ps n n0 hs (by omega) (0 :: G) (by rw [List.length_cons]; omega) (by omega)
        rw [List.length_cons] at r2 r3 r4
        refine ⟨G', ?_, by rw [if_pos z, rv, gv], by omega, by omega, ?_, fun u g R => ?_⟩
        · have ea : mBin addKD (mLst (mCons (mC (.int 0)) mNil)) (mVarF 3) (stW far ps n G (.d (.int m))) = .ok (.lst (il (0 :: G))) (stW far ps n G (.d (.int m))) := by
            refine bin_at (f := addKD) (a := .lst [.int 0]) (b := .lst (il G)) (st1 := stW far ps n G (.d (.int m))) rfl rfl ?_
            show (if 1 + (il G).length ≤ lim then some (D.lst ([.int 0] ++ il G)) else none) = _
            rw [if_pos (by rw [List.length_map]; show _ ≤ 100000; omega)]
            rfl
          refine seq_to e2 (if_to c ((asg_at (d := .lst (il G')) (st1 := stW far ps n G (.d (.int m))) ?_).trans rfl))
          exact call_at (as := [.lst (il (0 :: G)), .kt (il ps), .int n]) (cons_at ea rfl) r1
        · by_cases w : G.length + 1 ≤ ps.length
          · rw [r3 w]
            rcases gf with ⟨k, rfl⟩ | gf
            · exact .inl ⟨k + 1, rfl⟩
            · have := gf.1; omega
          · exact .inr ⟨by omega, r4 (by omega)⟩
        · rw [hd, z]
          exact r5 u _ g (Rep.shift (g4 u _ g R))
      · rw [decide_eq_false z] at c
        refine ⟨G, seq_to e2 (if_n c), by rw [if_neg z, gv], by omega, by omega, gf, fun u g R => ?_⟩
        have z0 : (far / 2 ^ m) % 2 = 0 := by omega
        rw [hd, z0, Nat.add_zero]
        exact g4 u _ g R
    obtain ⟨G', s1, sv, s2, s3, s4, s5⟩ := step
    obtain ⟨F', x4', t1, tv, t2, t3, t4, t5⟩ := pw_loop ps n n0 n1 hs h2 hp far m G' (.d (.int m)) s2 s3 s4
    refine ⟨F', x4', ?_, by rw [tv, sv]; rfl, t2, t3, t4, fun u g R => t5 u g (s5 u g R)⟩
    show (match pwB (stW far ps n F (.d (.int m))) with
      | .nx st2 => loopS (tgName 4) pwB (pl m) st2
      | .ct st2 => loopS (tgName 4) pwB (pl m) st2
      | .bk st2 => .nx st2
      | o => o) = _
    rw [s1]
    exact t1
theorem bits_lt (far : Nat) : far < 2 ^ (Builtin.Int.intBits (far : Int)) := by
  unfold Builtin.Int.intBits
  by_cases h : far = 0
  · subst h; decide
  · have e : ((far : Int) == 0) = false := by simp [h]
    rw [e]
    show far < 2 ^ ((far : Int).natAbs.log2 + 1)
    rw [Int.natAbs_natCast]
    exact Nat.lt_log2_self
theorem rev_pl (q : Nat) (h : q < 1000000) : revF [.int ((q : Nat) : Int)] = some (pl q) := by
  have hg : big62 ((q : Nat) : Int) = true := by unfold big62; rw [Bool.and_eq_true, decide_eq_true_iff, decide_eq_true_iff]; omega
  simp only [revF, hg, if_true, Int.sub_zero, Int.toNat_natCast, pl_is]
theorem mifun_at {f : List D → Option (List D)} {ma : MA} {st st1 : S} {ds es : List D} (h : ma st = .ok ds st1) (e : f ds = some es) : miFun f ma st = .ok es st1 := by
  unfold miFun
  rw [h]
  show optO (f ds) st1 = _
  rw [e]
  rfl
theorem bits_at (ps : List Int) (n : Int) (far q : Nat) (hq : Builtin.Int.intBits (far : Int) = q) : (mFun bitsD (mCons (mVarF 0) mNil)) (stW far ps n [1] .no) = .ok (.int ((q : Nat) : Int)) (stW far ps n [1] .no) := by
  refine fun_at (ds := [.int far]) rfl ?_
  unfold bitsD
  simp only [hq]
theorem pw_places (ps : List Int) (n : Int) (far q : Nat) (hq : Builtin.Int.intBits (far : Int) = q) (h : q < 1000000) : (miFun revF (mCons (mFun bitsD (mCons (mVarF 0) mNil)) mNil)) (stW far ps n [1] .no) = .ok (pl q) (stW far ps n [1] .no) :=
  mifun_at (cons_at (bits_at ps n far q hq) (e := (rfl : mNil _ = _))) (rev_pl q h)
theorem power_ex (ps : List Int) (n : Int) (n0 : 0 < n) (n1 : n < 18446744073709551616) (hs : ∀ p ∈ ps, smallI p = true) (h2 : 2 ≤ ps.length) (hp : ps.length ≤ 50) (far : Nat) (hb : Builtin.Int.intBits (far : Int) < 1000000) :
    ∃ F' : List Int, Rn m_power 5 [.int far, .kt (il ps), .int n] (.lst (il F')) ∧ F' = powV ps n far (Builtin.Int.intBits (far : Int)) [1] ∧ 1 ≤ F'.length ∧ F'.length ≤ ps.length ∧ ∀ u, Goes u ps → Rep u n F' far := by
  have hl := bits_lt far
  generalize hq : Builtin.Int.intBits (far : Int) = q at hb hl
  obtain ⟨F', x4', e, fv, f1, f2, f3, f4⟩ := pw_loop ps n n0 n1 hs h2 hp far q [1] .no (Nat.le_refl 1) (Nat.le_trans (Nat.le_succ 1) h2) (.inl ⟨0, rfl⟩)
  refine ⟨F', ?_, fv, f1, f2, fun u g => f4 u g ?_⟩
  · refine rn (st' := stW far ps n F' x4') ?_
    unfold m_power
    refine seq_to (st1 := stW far ps n [1] .no) rfl (seq_to (st1 := stW far ps n F' x4') ?_ rfl)
    unfold mFor
    rw [pw_places ps n far q hq hb]
    exact e
  · rw [Nat.div_eq_of_lt hl]
    exact Rep.one u n 0
def dot : List Int → List Int → Int
  | c :: cs, y :: r => c * y + dot cs r
  | _, _ => 0
/-- from the end: m more members -/
def ext (ps : List Int) (r : List Int) : Nat → List Int
  | 0 => r
  | m + 1 => dot ps (ext ps r m) :: ext ps r m
theorem ext_len (ps r : List Int) : ∀ m, (ext ps r m).length = r.length + m
  | 0 => rfl
  | m + 1 => by
    show (ext ps r m).length + 1 = _
    rw [ext_len ps r m]
    omega
/-- the k-th member -/
def seqU (ps r : List Int) (k : Nat) : Int := ((ext ps r (k + 1)).reverse[k]?).getD 0
theorem ext_get (ps r : List Int) : ∀ (m j k : Nat), k < r.length + m → (ext ps r (m + j)).reverse[k]? = (ext ps r m).reverse[k]?
  | m, 0, k, _ => rfl
  | m, j + 1, k, h => by
    show (dot ps (ext ps r (m + j)) :: ext ps r (m + j)).reverse[k]? = _
    rw [List.reverse_cons, List.getElem?_append_left (by rw [List.length_reverse, ext_len]; omega)]
    exact ext_get ps r m j k h
theorem seqU_at (ps r : List Int) (m k : Nat) (h : k < r.length + m) : (ext ps r m).reverse[k]? = some (seqU ps r k) := by
  have h1 : (ext ps r (m + (k + 1))).reverse[k]? = (ext ps r m).reverse[k]? := ext_get ps r m (k + 1) k h
  have h2 : (ext ps r (k + 1 + m)).reverse[k]? = (ext ps r (k + 1)).reverse[k]? := ext_get ps r (k + 1) m k (by omega)
  rw [← h1, show m + (k + 1) = k + 1 + m by omega, h2]
  unfold seqU
  rw [List.getElem?_eq_getElem (by rw [List.length_reverse, ext_len]; omega)]
  rfl
theorem fore_dot (u : Nat → Int) : ∀ (ps r : List Int), ps.length ≤ r.length → (∀ k, k < r.length → r.reverse[k]? = some (u k)) → fore u 0 ps r.length = dot ps r
  | [], r, _, _ => by cases r <;> rfl
  | c :: cs, [], h, _ => by simp at h
  | c :: cs, y :: r, h, hu => by
    have hy : y = u r.length := by
      have := hu r.length (by simp)
      rw [List.reverse_cons, List.getElem?_append_right (by simp), List.length_reverse, Nat.sub_self] at this
      exact Option.some.inj this
    show c * u (r.length + 0) + fore u 0 cs r.length = c * y + dot cs r
    rw [fore_dot u cs r (by simpa using h) fun k hk => by
      have := hu k (by simp; omega)
      rwa [List.reverse_cons, List.getElem?_append_left (by simpa using hk)] at this, hy]
    rfl
theorem seqU_goes (ps r : List Int) (hl : r.length = ps.length) : Goes (seqU ps r) ps := fun m h => by
  obtain ⟨j, rfl⟩ : ∃ j, m = r.length + j := ⟨m - r.length, by omega⟩
  have e1 := seqU_at ps r (j + 1) (r.length + j) (by omega)
  have e2 : (ext ps r (j + 1)).reverse[r.length + j]? = some (dot ps (ext ps r j)) := by
    show (dot ps (ext ps r j) :: ext ps r j).reverse[r.length + j]? = _
    rw [List.reverse_cons, List.getElem?_append_right (by rw [List.length_reverse, ext_len]; omega), List.length_reverse, ext_len, Nat.sub_self]
    rfl
  rw [e2] at e1
  rw [← Option.some.inj e1, ← fore_dot (seqU ps r) ps (ext ps r j) (by rw [ext_len]; omega) fun k hk => seqU_at ps r j k (by rwa [ext_len] at hk), ext_len]
theorem is_number_rn (v : Int) : Rn m_is_number 1 [.int v] (.bl true) := rn' rfl
theorem plain_number_rn (v l : Int) (h : l ≤ v) : Rn m_plain_number 3 [.int v, .int l, .non] (.int v) := by
  refine rn (st' := ⟨[.d (.int v), .d (.int l), .d .non], []⟩) ?_
  unfold m_plain_number
  have c : ltD (.int v) (.int l) = some (.bl false) := by
    show some (D.bl (decide (v < l))) = _
    rw [decide_eq_false (by omega)]
  refine seq_to (st1 := ⟨[.d (.int v), .d (.int l), .d .non], []⟩) (if_n (or_at (a := false) (b := false) (not_at (b := true) (tru_at (d := .bl true) (call_at (as := [.int v]) (st1 := ⟨[.d (.int v), .d (.int l), .d .non], []⟩) rfl (is_number_rn v)) rfl)) fun _ => or_at (a := false) (b := false) (b_at (bin_at (a := .int v) (b := .int l) rfl rfl c)) fun _ => rfl)) rfl
theorem need_from_rn (v l : Int) (h : l ≤ v) : Rn m_need_from 2 [.int v, .int l] (.int v) := by
  refine rn (st' := ⟨[.d (.int v), .d (.int l)], []⟩) ?_
  unfold m_need_from
  refine ret_at (call_at (as := [.int v]) (cons_at (d := .int v) (st1 := ⟨[.d (.int v), .d (.int l)], []⟩) ?_ rfl) (rn' rfl))
  have q := plain_number_rn v l h
  unfold mCall
  show bindO (O.ok [.int v, .int l] _) (fun ds st1 => runD m_plain_number 3 (ds ++ [.non]) st1) = _
  exact q _
theorem check_high_rn (h : Int) (h5 : h ≤ 5) : Rn m_check_high 1 [.int h] .non := by
  refine rn_nx (st' := ⟨[.d (.int h)], []⟩) ?_
  unfold m_check_high
  refine if_f (b_at (bin_at (a := .int h) (b := .int 5) rfl rfl ?_))
  show some (D.bl (decide (5 < h))) = _
  rw [decide_eq_false (by omega)]
/-- sums of products, as far as both go -/
theorem sum_zip (u : Nat → Int) : ∀ (F : List Int) (t : Nat) (us : List Int), F.length ≤ us.length → (∀ k, k < us.length → us[k]? = some (u (t + k))) → ((F.zip us).map fun p => p.1 * p.2).sum = lam u t F
  | [], t, us, _, _ => by simp [lam]
  | c :: F, t, [], h, _ => by simp at h
  | c :: F, t, y :: us, h, hu => by
    have h0 := hu 0 (by simp)
    have hy : y = u t := Option.some.inj h0
    rw [List.zip_cons_cons, List.map_cons, List.sum_cons, sum_zip u F (t + 1) us (by simpa using h) fun k hk => by
      have := hu (k + 1) (by simp; omega)
      rw [show t + 1 + k = t + (k + 1) by omega]
      simpa using this, hy]
    rfl
theorem zipD_il : ∀ F us : List Int, zipD (il F) (il us) = (F.zip us).map fun p => D.tup [.int p.1, .int p.2]
  | [], us => by cases us <;> rfl
  | _ :: _, [] => rfl
  | c :: F, y :: us => by
    show D.tup [.int c, .int y] :: zipD (il F) (il us) = _
    rw [zipD_il F us]
    rfl
theorem sumD_il (xs : List (Int × Int)) : sumD [.lst (xs.map fun p => D.int (p.1 * p.2))] = some (.int ((xs.map fun p => p.1 * p.2).sum)) := by
  unfold sumD
  have e : mapO toI (xs.map fun p => D.int (p.1 * p.2)) = some (xs.map fun p => p.1 * p.2) := mapO_map xs fun _ _ => rfl
  simp only [e]
theorem mul_small (a b : Int) (h : smallI b = true) : mulKD (.int a) (.int b) = some (.int (a * b)) := by
  show (if (smallI a || smallI b) = true then some (D.int (a * b)) else none) = _
  rw [h, Bool.or_true, if_pos rfl]
abbrev stC (h w n : Int) (ps cs us : List Int) (x6 : Sl) : S := ⟨[.d (.int h), .d (.int w), .d (.int n), .d (.kt (il ps)), .d (.kt (il cs)), .d (.kt (il us)), x6, .no, .no], []⟩
theorem rest_sum (h w n : Int) (ps cs us F : List Int) (hs : ∀ c ∈ us, smallI c = true) (hl : us.length ≤ 1000) :
    (mFun sumD (mCons (mLc (miFun zip2F (mCons (mVarF 6) (mCons (mVarF 5) mNil))) (tgTup [7, 8]) mYes (mBin mulKD (mVarF 7) (mVarF 8)) [7, 8]) mNil)) (stC h w n ps cs us (.d (.lst (il F)))) = .ok (.int (((F.zip us).map fun p => p.1 * p.2).sum)) (stC h w n ps cs us (.d (.lst (il F)))) := by
  have q := lc_all (i := fun p : Int × Int => D.tup [.int p.1, .int p.2]) (f := fun p => D.int (p.1 * p.2)) (mi := (miFun zip2F (mCons (mVarF 6) (mCons (mVarF 5) mNil)))) (tg := tgTup [7, 8]) (me := (mBin mulKD (mVarF 7) (mVarF 8))) (vs := [7, 8]) (st := stC h w n ps cs us (.d (.lst (il F)))) (F.zip us)
    (mifun_at (ds := [.lst (il F), .kt (il us)]) rfl (by show some (zipD (il F) (il us)) = _; rw [zipD_il])) (by rw [List.length_zip]; omega) fun p m => by
      refine ⟨[.d (.int h), .d (.int w), .d (.int n), .d (.kt (il ps)), .d (.kt (il cs)), .d (.kt (il us)), .d (.lst (il F)), .d (.int p.1), .d (.int p.2)], rfl, ?_⟩
      exact bin_at (f := mulKD) (a := .int p.1) (b := .int p.2) rfl rfl (mul_small _ _ (hs p.2 (List.of_mem_zip m).2))
  exact fun_at (cons_at q (e := (rfl : mNil _ = _))) (sumD_il _)
abbrev cPa : D := (.kt [(.kt [(.int 1), (.int 1)]), (.kt [(.int 2), (.int 0), (.int 2), (.int (-1))]), (.kt [(.int 1), (.int 2), (.int 0), (.int 2), (.int (-1)), (.int (-1))]), (.kt [(.int 1), (.int 1), (.int 1), (.int (-1)), (.int 7), (.int (-7)), (.int 1), (.int (-1)), (.int (-1)), (.int (-1)), (.int 1)]), (.kt [(.int 1), (.int 1), (.int (-1)), (.int 3), (.int (-1)), (.int 5), (.int (-2)), (.int (-5)), (.int (-1)), (.int (-3)), (.int (-1)), (.int (-1)), (.int 1), (.int 1)])])
abbrev cFi : D := (.kt [(.kt [(.int 1), (.int 2)]), (.kt [(.int 2), (.int 6), (.int 13), (.int 29)]), (.kt [(.int 3), (.int 13), (.int 22), (.int 44), (.int 90), (.int 196), (.int 406), (.int 852)]), (.kt [(.int 5), (.int 29), (.int 44), (.int 66), (.int 126), (.int 238), (.int 490), (.int 922), (.int 1714), (.int 3306), (.int 6246), (.int 12102), (.int 22994), (.int 43682)]), (.kt [(.int 8), (.int 68), (.int 90), (.int 126), (.int 178), (.int 325), (.int 584), (.int 1165), (.int 2030), (.int 3619), (.int 6080), (.int 10987), (.int 19362), (.int 35477), (.int 62360), (.int 111837), (.int 195614), (.int 350707)])])
theorem sl_end (h w n : Int) (ps cs : List Int) (hd : ps.length ≤ cs.length) (h1 : 1 ≤ ps.length) :
    (mSlK (mVarF 4) (mPS (mNeg (mFun lenD (mCons (mVarF 3) mNil)))) mPN) ⟨[.d (.int h), .d (.int w), .d (.int n), .d (.kt (il ps)), .d (.kt (il cs)), .no, .no, .no, .no], []⟩ = .ok (.kt (il (cs.drop (cs.length - ps.length)))) ⟨[.d (.int h), .d (.int w), .d (.int n), .d (.kt (il ps)), .d (.kt (il cs)), .no, .no, .no, .no], []⟩ := by
  have e1 : HT.sIx (il cs).length 0 (some (-(((il ps).length : Nat) : Int))) = cs.length - ps.length := by
    unfold HT.sIx
    simp only [List.length_map]
    rw [if_pos (by omega)]
    omega
  have e2 : HT.sIx (il cs).length (il cs).length none = cs.length := by
    unfold HT.sIx
    simp
  show O.ok (if wholeB (il cs).length (some (-(((il ps).length : Nat) : Int))) none = true then D.kt (il cs) else D.kt (cutD (il cs) (some (-(((il ps).length : Nat) : Int))) none)) _ = _
  have e3 : cutD (il cs) (some (-(((il ps).length : Nat) : Int))) none = il (cs.drop (cs.length - ps.length)) := by
    unfold cutD
    rw [e1, e2]
    show List.take _ (List.drop _ (cs.map D.int)) = (cs.drop _).map D.int
    rw [← List.map_drop, List.take_of_length_le (by rw [List.length_map, List.length_drop]; exact Nat.le_refl _)]
  split
  · rename_i hw
    have z : cs.length - ps.length = 0 := by
      unfold wholeB at hw
      rw [e1, e2] at hw
      simp at hw
      omega
    rw [z]
    rfl
  · rw [e3]
theorem rest_far (h w n : Int) (ps cs : List Int) (hP : ixD cPa (.int (h - 1)) = some (.kt (il ps))) (hC : ixD cFi (.int (h - 1)) = some (.kt (il cs))) (h1 : 1 ≤ h) (h5 : h ≤ 5) (n0 : 1 ≤ n) (n1 : n < 18446744073709551616)
    (hs : ∀ p ∈ ps, smallI p = true) (hcs : ∀ c ∈ cs, smallI c = true) (h2 : 2 ≤ ps.length) (hp : ps.length ≤ 50) (hd : ps.length ≤ cs.length) (hL : cs.length ≤ 50) (hw : (cs.length : Int) < w) (hb : Builtin.Int.intBits (((w - 1 - cs.length + ps.length).toNat : Nat) : Int) < 1000000) :
    Rn m_corridor_rest 9 [.int h, .int w, .int n] (.int (seqU ps (cs.drop (cs.length - ps.length)).reverse (w - 1 - cs.length + ps.length).toNat % n)) := by
  obtain ⟨F, e, _, f1, f2, f3⟩ := power_ex ps n (by omega) n1 hs h2 hp (w - 1 - cs.length + ps.length).toNat hb
  have hus : (cs.drop (cs.length - ps.length)).length = ps.length := by rw [List.length_drop]; omega
  have hg := f3 (seqU ps (cs.drop (cs.length - ps.length)).reverse) (seqU_goes ps _ (by rw [List.length_reverse]; exact hus))
  have hz := sum_zip (seqU ps (cs.drop (cs.length - ps.length)).reverse) F 0 (cs.drop (cs.length - ps.length)) (by omega) fun k hk => by
    have q := seqU_at ps (cs.drop (cs.length - ps.length)).reverse 0 k (by rw [List.length_reverse]; omega)
    rw [show ext ps (cs.drop (cs.length - ps.length)).reverse 0 = (cs.drop (cs.length - ps.length)).reverse from rfl, List.reverse_reverse] at q
    rw [Nat.zero_add]
    exact q
  have hm := (hg 0).eq
  rw [Nat.add_zero, ← hz] at hm
  refine rn (st' := stC h w n ps cs (cs.drop (cs.length - ps.length)) (.d (.lst (il F)))) ?_
  unfold m_corridor_rest
  refine seq_to (st1 := ⟨[.d (.int h), .d (.int w), .d (.int n), .no, .no, .no, .no, .no, .no], []⟩) (par_at (cons_at (call_at (as := [.int h, .int 1]) (st1 := ⟨[.d (.int h), .d (.int w), .d (.int n), .no, .no, .no, .no, .no, .no], []⟩) rfl (need_from_rn h 1 h1)) (cons_at (call_at (as := [.int w, .int 1]) (st1 := ⟨[.d (.int h), .d (.int w), .d (.int n), .no, .no, .no, .no, .no, .no], []⟩) rfl (need_from_rn w 1 (by omega))) (cons_at (call_at (as := [.int n, .int 1]) (st1 := ⟨[.d (.int h), .d (.int w), .d (.int n), .no, .no, .no, .no, .no, .no], []⟩) rfl (need_from_rn n 1 n0)) rfl))) rfl) ?_
  refine seq_to (st1 := ⟨[.d (.int h), .d (.int w), .d (.int n), .no, .no, .no, .no, .no, .no], []⟩) (drop_at (call_at (as := [.int h]) (st1 := ⟨[.d (.int h), .d (.int w), .d (.int n), .no, .no, .no, .no, .no, .no], []⟩) rfl (check_high_rn h h5))) ?_
  refine seq_to (st1 := ⟨[.d (.int h), .d (.int w), .d (.int n), .d (.kt (il ps)), .d (.kt (il cs)), .no, .no, .no, .no], []⟩) (par_at (cons_at (bin_at (f := ixD) (a := cPa) (b := .int (h - 1)) (st1 := ⟨[.d (.int h), .d (.int w), .d (.int n), .no, .no, .no, .no, .no, .no], []⟩) (st2 := ⟨[.d (.int h), .d (.int w), .d (.int n), .no, .no, .no, .no, .no, .no], []⟩) rfl rfl hP) (cons_at (bin_at (f := ixD) (a := cFi) (b := .int (h - 1)) (st1 := ⟨[.d (.int h), .d (.int w), .d (.int n), .no, .no, .no, .no, .no, .no], []⟩) (st2 := ⟨[.d (.int h), .d (.int w), .d (.int n), .no, .no, .no, .no, .no, .no], []⟩) rfl rfl hC) rfl)) rfl) ?_
  have c : (mB (mBin leD (mVarF 1) (mFun lenD (mCons (mVarF 4) mNil)))) ⟨[.d (.int h), .d (.int w), .d (.int n), .d (.kt (il ps)), .d (.kt (il cs)), .no, .no, .no, .no], []⟩ = .ok false ⟨[.d (.int h), .d (.int w), .d (.int n), .d (.kt (il ps)), .d (.kt (il cs)), .no, .no, .no, .no], []⟩ := by
    refine b_at (bin_at (a := .int w) (b := .int (cs.length : Nat)) (st1 := ⟨[.d (.int h), .d (.int w), .d (.int n), .d (.kt (il ps)), .d (.kt (il cs)), .no, .no, .no, .no], []⟩) rfl (by show O.ok (D.int ((il cs).length : Nat)) _ = _; rw [List.length_map]) ?_)
    show some (D.bl (decide (w ≤ (cs.length : Nat)))) = _
    rw [decide_eq_false (by omega)]
  refine seq_to (if_n c) ?_
  refine seq_to (st1 := stC h w n ps cs (cs.drop (cs.length - ps.length)) .no) ((asg_at (sl_end h w n ps cs hd (by omega))).trans rfl) ?_
  have ep : (mBin addKD (mBin subD (mBin subD (mVarF 1) (mC (.int 1))) (mFun lenD (mCons (mVarF 4) mNil))) (mFun lenD (mCons (mVarF 3) mNil))) (stC h w n ps cs (cs.drop (cs.length - ps.length)) .no) = .ok (.int (((w - 1 - cs.length + ps.length).toNat : Nat) : Int)) (stC h w n ps cs (cs.drop (cs.length - ps.length)) .no) := by
    show O.ok (D.int (w - 1 - (((il cs).length : Nat) : Int) + (((il ps).length : Nat) : Int))) _ = _
    rw [List.length_map, List.length_map]
    congr 2
    omega
  refine seq_to (st1 := stC h w n ps cs (cs.drop (cs.length - ps.length)) (.d (.lst (il F)))) ((asg_at (d := .lst (il F)) (st1 := stC h w n ps cs (cs.drop (cs.length - ps.length)) .no) (call_at (as := [.int (((w - 1 - cs.length + ps.length).toNat : Nat) : Int), .kt (il ps), .int n]) (cons_at ep rfl) e)).trans rfl) ?_
  refine ret_at (bin_at (f := modD) (rest_sum h w n ps cs _ F (fun c m => hcs c (List.mem_of_mem_drop m)) (by omega)) (b := .int n) rfl ?_)
  rw [mod_at _ n (by omega), hm]
theorem seq_pow (ps us : List Int) (n : Int) (far : Nat) (n0 : 1 ≤ n) (n1 : n < 18446744073709551616) (hs : ∀ p ∈ ps, smallI p = true) (h2 : 2 ≤ ps.length) (hp : ps.length ≤ 50) (hus : us.length = ps.length) (hb : Builtin.Int.intBits (far : Int) < 1000000) :
    seqU ps us.reverse far % n = (((powV ps n far (Builtin.Int.intBits (far : Int)) [1]).zip us).map fun p => p.1 * p.2).sum % n := by
  obtain ⟨F, e, fv, f1, f2, f3⟩ := power_ex ps n (by omega) n1 hs h2 hp far hb
  have hg := f3 (seqU ps us.reverse) (seqU_goes ps _ (by rw [List.length_reverse]; exact hus))
  have hz := sum_zip (seqU ps us.reverse) F 0 us (by omega) fun k hk => by
    have q := seqU_at ps us.reverse 0 k (by rw [List.length_reverse]; omega)
    rw [show ext ps us.reverse 0 = us.reverse from rfl, List.reverse_reverse] at q
    rw [Nat.zero_add]
    exact q
  have hm := (hg 0).eq
  rw [Nat.add_zero, ← hz] at hm
  rw [← hm, fv]
theorem rest_near (h w n : Int) (ps cs : List Int) (c0 : Int) (hP : ixD cPa (.int (h - 1)) = some (.kt (il ps))) (hC : ixD cFi (.int (h - 1)) = some (.kt (il cs))) (h1 : 1 ≤ h) (h5 : h ≤ 5) (n0 : 1 ≤ n) (w1 : 1 ≤ w) (hw : w ≤ (cs.length : Int)) (hc : cs[(w - 1).toNat]? = some c0) :
    Rn m_corridor_rest 9 [.int h, .int w, .int n] (.int (c0 % n)) := by
  refine rn (st' := ⟨[.d (.int h), .d (.int w), .d (.int n), .d (.kt (il ps)), .d (.kt (il cs)), .no, .no, .no, .no], []⟩) ?_
  unfold m_corridor_rest
  refine seq_to (st1 := ⟨[.d (.int h), .d (.int w), .d (.int n), .no, .no, .no, .no, .no, .no], []⟩) (par_at (cons_at (call_at (as := [.int h, .int 1]) (st1 := ⟨[.d (.int h), .d (.int w), .d (.int n), .no, .no, .no, .no, .no, .no], []⟩) rfl (need_from_rn h 1 h1)) (cons_at (call_at (as := [.int w, .int 1]) (st1 := ⟨[.d (.int h), .d (.int w), .d (.int n), .no, .no, .no, .no, .no, .no], []⟩) rfl (need_from_rn w 1 w1)) (cons_at (call_at (as := [.int n, .int 1]) (st1 := ⟨[.d (.int h), .d (.int w), .d (.int n), .no, .no, .no, .no, .no, .no], []⟩) rfl (need_from_rn n 1 n0)) rfl))) rfl) ?_
  refine seq_to (st1 := ⟨[.d (.int h), .d (.int w), .d (.int n), .no, .no, .no, .no, .no, .no], []⟩) (drop_at (call_at (as := [.int h]) (st1 := ⟨[.d (.int h), .d (.int w), .d (.int n), .no, .no, .no, .no, .no, .no], []⟩) rfl (check_high_rn h h5))) ?_
  refine seq_to (st1 := ⟨[.d (.int h), .d (.int w), .d (.int n), .d (.kt (il ps)), .d (.kt (il cs)), .no, .no, .no, .no], []⟩) (par_at (cons_at (bin_at (f := ixD) (a := cPa) (b := .int (h - 1)) (st1 := ⟨[.d (.int h), .d (.int w), .d (.int n), .no, .no, .no, .no, .no, .no], []⟩) (st2 := ⟨[.d (.int h), .d (.int w), .d (.int n), .no, .no, .no, .no, .no, .no], []⟩) rfl rfl hP) (cons_at (bin_at (f := ixD) (a := cFi) (b := .int (h - 1)) (st1 := ⟨[.d (.int h), .d (.int w), .d (.int n), .no, .no, .no, .no, .no, .no], []⟩) (st2 := ⟨[.d (.int h), .d (.int w), .d (.int n), .no, .no, .no, .no, .no, .no], []⟩) rfl rfl hC) rfl)) rfl) ?_
  have c : (mB (mBin leD (mVarF 1) (mFun lenD (mCons (mVarF 4) mNil)))) ⟨[.d (.int h), .d (.int w), .d (.int n), .d (.kt (il ps)), .d (.kt (il cs)), .no, .no, .no, .no], []⟩ = .ok true ⟨[.d (.int h), .d (.int w), .d (.int n), .d (.kt (il ps)), .d (.kt (il cs)), .no, .no, .no, .no], []⟩ := by
    refine b_at (bin_at (a := .int w) (b := .int (cs.length : Nat)) (st1 := ⟨[.d (.int h), .d (.int w), .d (.int n), .d (.kt (il ps)), .d (.kt (il cs)), .no, .no, .no, .no], []⟩) rfl (by show O.ok (D.int ((il cs).length : Nat)) _ = _; rw [List.length_map]) ?_)
    show some (D.bl (decide (w ≤ (cs.length : Nat)))) = _
    rw [decide_eq_true hw]
  have er : (mIf (mB (mBin leD (mVarF 1) (mFun lenD (mCons (mVarF 4) mNil)))) (mRet (mBin modD (mBin ixD (mVarF 4) (mBin subD (mVarF 1) (mC (.int 1)))) (mVarF 2))) mSkip) ⟨[.d (.int h), .d (.int w), .d (.int n), .d (.kt (il ps)), .d (.kt (il cs)), .no, .no, .no, .no], []⟩ = .rt (.int (c0 % n)) ⟨[.d (.int h), .d (.int w), .d (.int n), .d (.kt (il ps)), .d (.kt (il cs)), .no, .no, .no, .no], []⟩ :=
    if_to c (ret_at (bin_at (f := modD) (a := .int c0) (b := .int n) (bin_at (f := ixD) (a := .kt (il cs)) (b := .int (w - 1)) (st1 := ⟨[.d (.int h), .d (.int w), .d (.int n), .d (.kt (il ps)), .d (.kt (il cs)), .no, .no, .no, .no], []⟩) (st2 := ⟨[.d (.int h), .d (.int w), .d (.int n), .d (.kt (il ps)), .d (.kt (il cs)), .no, .no, .no, .no], []⟩) rfl rfl (ix_at (i := D.int) (R := cs) rfl (n := (w - 1).toNat) (by omega) hc)) rfl (mod_at c0 n (by omega))))
  unfold mSeq
  rw [er]
  rfl
def en : Nat → List Int → List (Nat × Int)
  | _, [] => []
  | k, c :: cs => (k, c) :: en (k + 1) cs
theorem en_is : ∀ (cs : List Int) (k : Nat), enumFrom k (il cs) = (en k cs).map fun p => D.tup [.int (p.1 : Nat), .int p.2]
  | [], _ => rfl
  | c :: cs, k => by
    show D.tup [.int (k : Nat), .int c] :: enumFrom (k + 1) (il cs) = _
    rw [en_is cs (k + 1)]
    rfl
theorem en_mem : ∀ (cs : List Int) (k : Nat) (p : Nat × Int), p ∈ en k cs → k ≤ p.1 ∧ p.1 < k + cs.length ∧ p.2 ∈ cs
  | [], _, _, m => nomatch m
  | c :: cs, k, p, m => by
    rcases List.mem_cons.mp m with rfl | m
    · exact ⟨Nat.le_refl _, by simp, List.mem_cons_self ..⟩
    · obtain ⟨h1, h2, h3⟩ := en_mem cs (k + 1) p m
      exact ⟨by omega, by rw [List.length_cons]; omega, List.mem_cons_of_mem _ h3⟩
theorem en_dot (g : Nat → Int) : ∀ (cs : List Int) (k : Nat) (r : List Int), cs.length ≤ r.length → (∀ j, j < r.length → r[j]? = some (g (k + j))) → ((en k cs).map fun p => p.2 * g p.1).sum = dot cs r
  | [], k, r, _, _ => by cases r <;> rfl
  | c :: cs, k, [], h, _ => by simp at h
  | c :: cs, k, y :: r, h, hg => by
    have hy : y = g k := Option.some.inj (hg 0 (by simp))
    show c * g k + ((en (k + 1) cs).map fun p => p.2 * g p.1).sum = c * y + dot cs r
    rw [en_dot g cs (k + 1) r (by simpa using h) fun j hj => by
      have := hg (j + 1) (by simp; omega)
      rw [show k + 1 + j = k + (j + 1) by omega]
      simpa using this, hy]
theorem rev_at (r : List Int) (k : Nat) (h : k < r.length) : (il r.reverse)[(il r.reverse).length - 1 - k]? = (r[k]?).map D.int := by
  rw [List.getElem?_map, List.length_map, List.length_reverse, List.getElem?_reverse (by omega)]
  congr 2
  omega
abbrev stK (h w b : Int) (P Fi : D) (x6 : Sl) (r : List Int) : S := ⟨[.d (.int h), .d (.int w), .d (.int b), .d P, .d Fi, .rf 0, x6, .no, .no], [.l (il r.reverse)]⟩
theorem on_sum (h w b : Int) (P Fi : D) (x6 : Sl) (r ps : List Int) (hP : seqW P = some (il ps)) (hl : ps.length ≤ r.length) (hl2 : ps.length ≤ 1000) (hs : ∀ p ∈ ps, smallI p = true) :
    (mFun sumD (mCons (mLc (miFun enumAF (mCons (mVarF 3) mNil)) (tgTup [7, 8]) mYes (mBin mulKD (mVarF 8) (mIxC 5 (mBin subD (mNeg (mC (.int 1))) (mVarF 7)))) [7, 8]) mNil)) (stK h w b P Fi x6 r) = .ok (.int (dot ps r)) (stK h w b P Fi x6 r) := by
  have elen : ∀ k, (en k ps).length = ps.length := by
    intro k
    have := congrArg List.length (en_is ps k)
    rw [enumFrom_len, List.length_map, List.length_map] at this
    exact this.symm
  have q := lc_all (i := fun p : Nat × Int => D.tup [.int (p.1 : Nat), .int p.2]) (f := fun p => D.int (p.2 * (r[p.1]?).getD 0)) (mi := (miFun enumAF (mCons (mVarF 3) mNil))) (tg := tgTup [7, 8]) (me := (mBin mulKD (mVarF 8) (mIxC 5 (mBin subD (mNeg (mC (.int 1))) (mVarF 7))))) (vs := [7, 8]) (st := stK h w b P Fi x6 r) (en 0 ps)
    (mifun_at (ds := [P]) rfl (by unfold enumAF; simp only [hP]; rw [en_is])) (by rw [elen]; omega) fun p m => by
      obtain ⟨m1, m2, m3⟩ := en_mem ps 0 p m
      refine ⟨[.d (.int h), .d (.int w), .d (.int b), .d P, .d Fi, .rf 0, x6, .d (.int (p.1 : Nat)), .d (.int p.2)], rfl, ?_⟩
      obtain ⟨y, hy⟩ : ∃ y, r[p.1]? = some y := ⟨_, List.getElem?_eq_getElem (by omega)⟩
      have eI : mIxC 5 (mBin subD (mNeg (mC (.int 1))) (mVarF 7)) ⟨[.d (.int h), .d (.int w), .d (.int b), .d P, .d Fi, .rf 0, x6, .d (.int (p.1 : Nat)), .d (.int p.2)], [.l (il r.reverse)]⟩ = .ok (.int y) ⟨[.d (.int h), .d (.int w), .d (.int b), .d P, .d Fi, .rf 0, x6, .d (.int (p.1 : Nat)), .d (.int p.2)], [.l (il r.reverse)]⟩ := by
        show optO (atD (il r.reverse) (-1 - ((p.1 : Nat) : Int))) _ = _
        unfold atD
        rw [ixN_end (by rw [List.length_map, List.length_reverse]; omega)]
        show optO ((il r.reverse)[(il r.reverse).length - 1 - p.1]?) _ = _
        rw [rev_at r p.1 (by omega), hy]
        rfl
      rw [hy]
      refine bin_at (f := mulKD) (a := .int p.2) (b := .int y) rfl eI ?_
      show (if (smallI p.2 || smallI y) = true then some (D.int (p.2 * y)) else none) = _
      rw [hs p.2 m3, Bool.true_or, if_pos rfl]
      rfl
  refine fun_at (cons_at q (e := (rfl : mNil _ = _))) ?_
  unfold sumD
  have e : mapO toI ((en 0 ps).map fun p => D.int (p.2 * (r[p.1]?).getD 0)) = some ((en 0 ps).map fun p => p.2 * (r[p.1]?).getD 0) := mapO_map (en 0 ps) fun _ _ => rfl
  simp only [e]
  rw [en_dot (fun k => (r[k]?).getD 0) ps 0 r hl fun j hj => by
    rw [Nat.zero_add, List.getElem?_eq_getElem hj]
    rfl]
theorem app_at {i k : Nat} {m : M} {st st1 : S} {d : D} {ds : List D} (h1 : st.cellOf i = some k) (h2 : st.isL k = true) (h3 : m st = .ok d st1) (h4 : st1.ce[k]? = some (.l ds)) (h5 : ds.length ≤ lim) :
    mApp i m st = .ok .non (st1.setC k (.l (ds ++ [d]))) := by
  unfold mApp
  simp only [h1, h2, h3, bindO, h4, if_pos h5, if_true]
theorem ext_one (ps : List Int) : ∀ (k : Nat) (r : List Int), ext ps (dot ps r :: r) k = ext ps r (k + 1)
  | 0, r => rfl
  | k + 1, r => by
    show dot ps (ext ps (dot ps r :: r) k) :: ext ps (dot ps r :: r) k = _
    rw [ext_one ps k r]
    rfl
abbrev onB : MS := (mDrop (mApp 5 (mFun sumD (mCons (mLc (miFun enumAF (mCons (mVarF 3) mNil)) (tgTup [7, 8]) mYes (mBin mulKD (mVarF 8) (mIxC 5 (mBin subD (mNeg (mC (.int 1))) (mVarF 7)))) [7, 8]) mNil))))
theorem on_loop (h w b : Int) (P Fi : D) (ps : List Int) (hP : seqW P = some (il ps)) (hl2 : ps.length ≤ 1000) (hs : ∀ p ∈ ps, smallI p = true) : ∀ (ds : List D) (r : List Int) (x6 : Sl), ps.length ≤ r.length → r.length + ds.length ≤ 90000 →
    ∃ x6', loopS (tgName 6) onB ds (stK h w b P Fi x6 r) = .nx (stK h w b P Fi x6' (ext ps r ds.length))
  | [], r, x6, _, _ => ⟨x6, rfl⟩
  | d :: ds, r, x6, hl, hb => by
    rw [List.length_cons] at hb
    have e1 : onB (stK h w b P Fi (.d d) r) = .nx (stK h w b P Fi (.d d) (dot ps r :: r)) := by
      refine drop_at (d := .non) ?_
      rw [app_at (k := 0) (ds := il r.reverse) rfl rfl (on_sum h w b P Fi (.d d) r ps hP hl hl2 hs) rfl (by rw [List.length_map, List.length_reverse]; show _ ≤ 100000; omega)]
      show O.ok D.non (S.mk _ [.l (il r.reverse ++ [.int (dot ps r)])]) = _
      rw [show il r.reverse ++ [.int (dot ps r)] = il (dot ps r :: r).reverse by rw [List.reverse_cons]; simp [il]]
    obtain ⟨x6', e⟩ := on_loop h w b P Fi ps hP hl2 hs ds (dot ps r :: r) (.d d) (by rw [List.length_cons]; omega) (by rw [List.length_cons]; omega)
    refine ⟨x6', ?_⟩
    show (match onB (stK h w b P Fi (.d d) r) with
      | .nx st2 => loopS (tgName 6) onB ds st2
      | .ct st2 => loopS (tgName 6) onB ds st2
      | .bk st2 => .nx st2
      | o => o) = _
    rw [e1]
    rw [ext_one] at e
    exact e
theorem counted_rn (h w b : Int) (P Fi : D) (ps cs : List Int) (v : Int) (hR : Rn m__law_rule_of 2 [.int h] (.kt [.int b, P, Fi])) (hF : seqD Fi = some (il cs)) (hP : seqW P = some (il ps)) (hl2 : ps.length ≤ 1000) (hs : ∀ p ∈ ps, smallI p = true) (hl : ps.length ≤ cs.length) (hc : cs.length ≤ 1000)
    (w1 : 1 ≤ w) (w2 : w ≤ 10000) (hv : (ext ps cs.reverse (w - cs.length).toNat).reverse[(w - 1).toNat]? = some v) : Rn m__law_counted_on 9 [.int h, .int w] (.int v) := by
  obtain ⟨x6', e⟩ := on_loop h w b P Fi ps hP hl2 hs ((List.range (w - cs.length).toNat).map fun (i : Nat) => D.int (0 + (i : Int))) cs.reverse .no (by rw [List.length_reverse]; exact hl) (by rw [List.length_reverse, List.length_map, List.length_range]; omega)
  rw [List.length_map, List.length_range] at e
  refine rn (st' := stK h w b P Fi x6' (ext ps cs.reverse (w - cs.length).toNat)) ?_
  unfold m__law_counted_on
  refine seq_to (st1 := ⟨[.d (.int h), .d (.int w), .d (.int b), .d P, .d Fi, .no, .no, .no, .no], []⟩) (to_at (call_at (as := [.int h]) (st1 := ⟨[.d (.int h), .d (.int w), .no, .no, .no, .no, .no, .no, .no], []⟩) rfl hR) rfl) ?_
  refine seq_to (st1 := stK h w b P Fi .no cs.reverse) (by rw [show stK h w b P Fi .no cs.reverse = ⟨[.d (.int h), .d (.int w), .d (.int b), .d P, .d Fi, .rf 0, .no, .no, .no], [.l (il cs)]⟩ by rw [stK, List.reverse_reverse]]; unfold mSetF fList; show bindS (optO (seqD Fi) _) _ = _; rw [hF]; rfl) ?_
  refine seq_to (st1 := stK h w b P Fi x6' (ext ps cs.reverse (w - cs.length).toNat)) ?_ ?_
  · have el : (mBin subD (mVarF 1) (mLenB 5)) (stK h w b P Fi .no cs.reverse) = .ok (.int (w - (cs.length : Nat))) (stK h w b P Fi .no cs.reverse) := by
      refine bin_at (f := subD) (a := .int w) (b := .int (cs.length : Nat)) (st1 := stK h w b P Fi .no cs.reverse) rfl ?_ rfl
      show O.ok (D.int ((il cs.reverse.reverse).length : Nat)) _ = _
      rw [List.length_map, List.reverse_reverse]
    unfold mFor
    rw [mifun_at (f := rangeF) (cons_at el (e := (rfl : mNil _ = _))) (es := (List.range (w - cs.length).toNat).map fun (i : Nat) => D.int (0 + (i : Int))) (by
      have hb : -4611686018427387904 ≤ w - (cs.length : Nat) ∧ w - (cs.length : Nat) < 4611686018427387904 := by omega
      simp only [rangeF, if_pos hb])]
    exact e
  · refine ret_at ?_
    show optO (atD (il (ext ps cs.reverse (w - cs.length).toNat).reverse) (w - 1)) _ = _
    have lt := (List.getElem?_eq_some_iff.mp hv).1
    unfold atD ixN
    rw [if_pos (by omega), if_pos (by rw [List.length_map]; omega)]
    show optO ((il (ext ps cs.reverse (w - cs.length).toNat).reverse)[(w - 1).toNat]?) _ = _
    rw [List.getElem?_map, hv]
    rfl
theorem bounds_end (n d : Nat) (h1 : 1 ≤ d) (h : d ≤ n) : sliceBounds (some (-1)) (some (-(d : Int) - 1)) (some (-1)) n = ((n : Int) - 1, (n : Int) - d - 1, -1) := by
  unfold sliceBounds
  simp only [Option.getD_some]
  rw [if_pos (by decide : (-1 : Int) < 0), if_pos (by omega : -(d : Int) - 1 < 0), if_neg (by decide : ¬ (-1 : Int) > 0), if_neg (by decide : ¬ (-1 : Int) > 0)]
  refine Prod.ext ?_ (Prod.ext ?_ rfl)
  · show max (-1) (min (-1 + (n : Int)) ((n : Int) - 1)) = (n : Int) - 1
    omega
  · show max (-1) (min (-(d : Int) - 1 + (n : Int)) ((n : Int) - 1)) = (n : Int) - d - 1
    omega
theorem range_end (n d : Nat) (h1 : 1 ≤ d) (h : d ≤ n) : sliceRange ((n : Int) - 1) ((n : Int) - d - 1) (-1) = (List.range d).map fun k => n - 1 - k := by
  unfold sliceRange
  simp only
  rw [if_neg (by decide : ¬ (-1 : Int) > 0), if_pos (by omega : (n : Int) - 1 > (n : Int) - d - 1)]
  have e : (((n : Int) - 1 - ((n : Int) - d - 1) - -1 - 1) / - -1).toNat = d := by
    rw [show - -1 = (1 : Int) by decide, Int.ediv_one]
    omega
  rw [e]
  refine List.map_congr_left fun k hk => ?_
  have := List.mem_range.mp hk
  omega
theorem take_pick (r : List Int) : ∀ d, d ≤ r.length → (List.range d).filterMap (fun k => (r[k]?).map D.int) = il (r.take d)
  | 0, _ => by simp [il]
  | d + 1, h => by
    rw [List.range_succ, List.filterMap_append, take_pick r d (by omega), List.take_succ]
    obtain ⟨y, hy⟩ : ∃ y, r[d]? = some y := ⟨_, List.getElem?_eq_getElem (by omega)⟩
    simp [il, hy]
theorem fm_congr {α β : Type} {f g : α → Option β} : ∀ l : List α, (∀ x ∈ l, f x = g x) → l.filterMap f = l.filterMap g
  | [], _ => rfl
  | x :: l, h => by
    rw [List.filterMap_cons, List.filterMap_cons, h x (List.mem_cons_self ..), fm_congr l fun y m => h y (List.mem_cons_of_mem _ m)]
theorem step_end (r : List Int) (d : Nat) (h1 : 1 ≤ d) (h : d ≤ r.length) : stepIx (il r.reverse) (some (-1)) (some (-(d : Int) - 1)) (some (-1)) = il (r.take d) := by
  have hn : (il r.reverse).length = r.length := by rw [List.length_map, List.length_reverse]
  unfold stepIx
  rw [hn, bounds_end r.length d h1 h]
  show List.filterMap _ (sliceRange ((r.length : Int) - 1) ((r.length : Int) - d - 1) (-1)) = _
  rw [range_end r.length d h1 h, List.filterMap_map, ← take_pick r d h]
  refine fm_congr _ fun k hk => ?_
  have := List.mem_range.mp hk
  show (il r.reverse)[r.length - 1 - k]? = _
  have q := rev_at r k (by omega)
  rw [hn] at q
  exact q
/-- the first ones alone count -/
theorem dot_take : ∀ (ps r : List Int), dot ps (r.take ps.length) = dot ps r
  | [], r => by cases r <;> rfl
  | c :: cs, [] => rfl
  | c :: cs, y :: r => by
    show c * y + dot cs (r.take cs.length) = c * y + dot cs r
    rw [dot_take cs r]
theorem dot_zip : ∀ (ps r : List Int), ((ps.zip r).map fun p => p.1 * p.2).sum = dot ps r
  | [], r => by cases r <;> rfl
  | c :: cs, [] => rfl
  | c :: cs, y :: r => by
    rw [List.zip_cons_cons, List.map_cons, List.sum_cons, dot_zip cs r]
    rfl
theorem dot_append : ∀ (ps a b : List Int), ps.length ≤ a.length → dot ps (a ++ b) = dot ps a
  | [], a, b, _ => by cases a <;> cases b <;> rfl
  | c :: cs, [], b, h => by simp at h
  | c :: cs, y :: a, b, h => by
    show c * y + dot cs (a ++ b) = c * y + dot cs a
    rw [dot_append cs a b (by simpa using h)]
theorem ext_append (ps a b : List Int) (h : ps.length ≤ a.length) : ∀ m, ext ps (a ++ b) m = ext ps a m ++ b
  | 0 => rfl
  | m + 1 => by
    show dot ps (ext ps (a ++ b) m) :: ext ps (a ++ b) m = dot ps (ext ps a m) :: ext ps a m ++ b
    rw [ext_append ps a b h m, dot_append ps (ext ps a m) b (by rw [ext_len]; omega)]
    rfl
theorem check_corridor_rn (h w : Int) (h5 : h ≤ 5) (w2 : w ≤ 2000) : Rn m_check_corridor 3 [.int h, .int w, .int 2000] .non := by
  refine rn_nx (st' := ⟨[.d (.int h), .d (.int w), .d (.int 2000)], []⟩) ?_
  unfold m_check_corridor
  refine seq_to (st1 := ⟨[.d (.int h), .d (.int w), .d (.int 2000)], []⟩) (drop_at (call_at (as := [.int h]) (st1 := ⟨[.d (.int h), .d (.int w), .d (.int 2000)], []⟩) rfl (check_high_rn h h5))) ?_
  refine if_f (b_at (bin_at (a := .int w) (b := .int 2000) rfl rfl ?_))
  show some (D.bl (decide (2000 < w))) = _
  rw [decide_eq_false (by omega)]
theorem need_corridor_rn (h w : Int) (h1 : 1 ≤ h) (h5 : h ≤ 5) (w1 : 1 ≤ w) (w2 : w ≤ 2000) : Rn m_need_corridor 3 [.int h, .int w, .int 2000] (.tup [.int h, .int w]) := by
  refine rn (st' := ⟨[.d (.int h), .d (.int w), .d (.int 2000)], []⟩) ?_
  unfold m_need_corridor
  refine seq_to (st1 := ⟨[.d (.int h), .d (.int w), .d (.int 2000)], []⟩) (par_at (cons_at (call_at (as := [.int h, .int 1]) (st1 := ⟨[.d (.int h), .d (.int w), .d (.int 2000)], []⟩) rfl (need_from_rn h 1 h1)) (cons_at (call_at (as := [.int w, .int 1]) (st1 := ⟨[.d (.int h), .d (.int w), .d (.int 2000)], []⟩) rfl (need_from_rn w 1 w1)) rfl)) rfl) ?_
  exact seq_to (st1 := ⟨[.d (.int h), .d (.int w), .d (.int 2000)], []⟩) (drop_at (call_at (as := [.int h, .int w, .int 2000]) (st1 := ⟨[.d (.int h), .d (.int w), .d (.int 2000)], []⟩) rfl (check_corridor_rn h w h5 w2))) rfl
abbrev stO (h w : Int) (ps : List Int) (x4 : Sl) (r : List Int) : S := ⟨[.d (.int h), .d (.int w), .d (.kt (il ps)), .rf 0, x4, .no, .no], [.l (il r.reverse)]⟩
abbrev coT : MT := (mB (mBin ltD (mLenB 3) (mVarF 1)))
abbrev coB : MS := (mSeq (mAsg 4 (mStepB 3 (mPS (mNeg (mC (.int 1)))) (mPS (mBin subD (mNeg (mFun lenD (mCons (mVarF 2) mNil))) (mC (.int 1)))) (mPS (mNeg (mC (.int 1))))))
    (mDrop (mApp 3 (mFun sumD (mCons (mLc (miFun zip2F (mCons (mVarF 2) (mCons (mVarF 4) mNil))) (tgTup [5, 6]) mYes (mBin mulKD (mVarF 5) (mVarF 6)) [5, 6]) mNil)))))
theorem co_sum (h w : Int) (ps us r : List Int) (hs : ∀ c ∈ ps, smallI c = true) (hl : ps.length ≤ 1000) :
    (mFun sumD (mCons (mLc (miFun zip2F (mCons (mVarF 2) (mCons (mVarF 4) mNil))) (tgTup [5, 6]) mYes (mBin mulKD (mVarF 5) (mVarF 6)) [5, 6]) mNil)) (stO h w ps (.d (.lst (il us))) r) = .ok (.int (dot ps us)) (stO h w ps (.d (.lst (il us))) r) := by
  have q := lc_all (i := fun p : Int × Int => D.tup [.int p.1, .int p.2]) (f := fun p => D.int (p.1 * p.2)) (mi := (miFun zip2F (mCons (mVarF 2) (mCons (mVarF 4) mNil)))) (tg := tgTup [5, 6]) (me := (mBin mulKD (mVarF 5) (mVarF 6))) (vs := [5, 6]) (st := stO h w ps (.d (.lst (il us))) r) (ps.zip us)
    (mifun_at (ds := [.kt (il ps), .lst (il us)]) rfl (by show some (zipD (il ps) (il us)) = _; rw [zipD_il])) (by rw [List.length_zip]; omega) fun p m => by
      refine ⟨[.d (.int h), .d (.int w), .d (.kt (il ps)), .rf 0, .d (.lst (il us)), .d (.int p.1), .d (.int p.2)], rfl, ?_⟩
      refine bin_at (f := mulKD) (a := .int p.1) (b := .int p.2) rfl rfl ?_
      show (if (smallI p.1 || smallI p.2) = true then some (D.int (p.1 * p.2)) else none) = _
      rw [hs p.1 (List.of_mem_zip m).1, Bool.true_or, if_pos rfl]
  rw [← dot_zip]
  exact fun_at (cons_at q (e := (rfl : mNil _ = _))) (sumD_il _)
theorem co_body (h w : Int) (ps r : List Int) (x4 : Sl) (hs : ∀ c ∈ ps, smallI c = true) (h1 : 1 ≤ ps.length) (hl : ps.length ≤ 1000) (hr : ps.length ≤ r.length) (hb : r.length ≤ 90000) : ∃ x4', coB (stO h w ps x4 r) = .nx (stO h w ps x4' (dot ps r :: r)) := by
  refine ⟨.d (.lst (il (r.take ps.length))), ?_⟩
  refine seq_to (st1 := stO h w ps (.d (.lst (il (r.take ps.length)))) r) ((asg_at (d := .lst (il (r.take ps.length))) (st1 := stO h w ps x4 r) ?_).trans rfl) (drop_at (d := .non) ?_)
  · show (if (some (-1 : Int)) = some 0 then O.no else O.ok (D.lst (stepIx (il r.reverse) (some (-1)) (some (-(((il ps).length : Nat) : Int) - 1)) (some (-1)))) _) = _
    rw [if_neg (by decide), List.length_map, step_end r ps.length h1 hr]
  · rw [app_at (k := 0) (ds := il r.reverse) rfl rfl (co_sum h w ps (r.take ps.length) r hs hl) rfl (by rw [List.length_map, List.length_reverse]; show _ ≤ 100000; omega), dot_take]
    show O.ok D.non (S.mk _ [.l (il r.reverse ++ [.int (dot ps r)])]) = _
    rw [show il r.reverse ++ [.int (dot ps r)] = il (dot ps r :: r).reverse by rw [List.reverse_cons]; simp [il]]
theorem co_while (h w : Int) (ps : List Int) (hs : ∀ c ∈ ps, smallI c = true) (h1 : 1 ≤ ps.length) (hl : ps.length ≤ 1000) (w2 : w ≤ 2000) : ∀ (k f : Nat) (r : List Int) (x4 : Sl), k < f → (w - r.length).toNat = k → ps.length ≤ r.length → r.length ≤ 80000 →
    ∃ x4', whileS coT coB f (stO h w ps x4 r) = .nx (stO h w ps x4' (ext ps r k))
  | k, 0, r, x4, hf, _, _, _ => by omega
  | k, f + 1, r, x4, hf, hk, hr, hb => by
    have c : coT (stO h w ps x4 r) = .ok (decide ((r.length : Int) < w)) (stO h w ps x4 r) := by
      refine b_at (bin_at (f := ltD) (a := .int (r.length : Nat)) (b := .int w) (st1 := stO h w ps x4 r) ?_ rfl rfl)
      show O.ok (D.int ((il r.reverse).length : Nat)) _ = _
      rw [List.length_map, List.length_reverse]
    by_cases z : (r.length : Int) < w
    · rw [decide_eq_true z] at c
      obtain ⟨j, rfl⟩ : ∃ j, k = j + 1 := ⟨k - 1, by omega⟩
      obtain ⟨x5, e1⟩ := co_body h w ps r x4 hs h1 hl hr (by omega)
      obtain ⟨x6, e2⟩ := co_while h w ps hs h1 hl w2 j f (dot ps r :: r) x5 (by omega) (by rw [List.length_cons]; omega) (by rw [List.length_cons]; omega) (by rw [List.length_cons]; omega)
      refine ⟨x6, ?_⟩
      unfold whileS
      rw [c]
      show (match coB (stO h w ps x4 r) with
        | .nx st2 => whileS coT coB f st2
        | .ct st2 => whileS coT coB f st2
        | .bk st2 => .nx st2
        | o => o) = _
      rw [e1]
      rw [ext_one] at e2
      exact e2
    · rw [decide_eq_false z] at c
      have k0 : k = 0 := by omega
      subst k0
      refine ⟨x4, ?_⟩
      unfold whileS
      rw [c]
      rfl
theorem count_rn (h w : Int) (ps cs : List Int) (v : Int) (hP : ixD cPa (.int (h - 1)) = some (.kt (il ps))) (hC : ixD cFi (.int (h - 1)) = some (.kt (il cs))) (h0 : 1 ≤ h) (h5 : h ≤ 5) (w1 : 1 ≤ w) (w2 : w ≤ 2000)
    (hs : ∀ c ∈ ps, smallI c = true) (h1 : 1 ≤ ps.length) (hl : ps.length ≤ 50) (hd : ps.length ≤ cs.length) (hc : cs.length ≤ 50) (hv : (ext ps cs.reverse (w - cs.length).toNat).reverse[(w - 1).toNat]? = some v) : Rn m_corridor_count 7 [.int h, .int w] (.int v) := by
  obtain ⟨x4', e⟩ := co_while h w ps hs h1 (by omega) w2 (w - cs.length).toNat 2100 cs.reverse .no (by omega) (by rw [List.length_reverse]) (by rw [List.length_reverse]; exact hd) (by rw [List.length_reverse]; omega)
  refine rn (st' := stO h w ps x4' (ext ps cs.reverse (w - cs.length).toNat)) ?_
  unfold m_corridor_count
  refine seq_to (st1 := ⟨[.d (.int h), .d (.int w), .no, .no, .no, .no, .no], []⟩) (to_at (call_at (as := [.int h, .int w, .int 2000]) (st1 := ⟨[.d (.int h), .d (.int w), .no, .no, .no, .no, .no], []⟩) rfl (need_corridor_rn h w h0 h5 w1 w2)) rfl) ?_
  refine seq_to (st1 := ⟨[.d (.int h), .d (.int w), .d (.kt (il ps)), .no, .no, .no, .no], []⟩) ((asg_at (d := .kt (il ps)) (st1 := ⟨[.d (.int h), .d (.int w), .no, .no, .no, .no, .no], []⟩) (bin_at (f := ixD) (a := cPa) (b := .int (h - 1)) rfl rfl hP)).trans rfl) ?_
  refine seq_to (st1 := stO h w ps .no cs.reverse) ?_ (seq_to e (ret_at ?_))
  · have ec : (mBin ixD (mC cFi) (mBin subD (mVarF 0) (mC (.int 1)))) ⟨[.d (.int h), .d (.int w), .d (.kt (il ps)), .no, .no, .no, .no], []⟩ = .ok (.kt (il cs)) ⟨[.d (.int h), .d (.int w), .d (.kt (il ps)), .no, .no, .no, .no], []⟩ := bin_at (f := ixD) (a := cFi) (b := .int (h - 1)) rfl rfl hC
    unfold mSetF fList
    show bindS (bindO ((mBin ixD (mC cFi) (mBin subD (mVarF 0) (mC (.int 1)))) ⟨[.d (.int h), .d (.int w), .d (.kt (il ps)), .no, .no, .no, .no], []⟩) _) _ = _
    rw [ec]
    rw [show stO h w ps .no cs.reverse = ⟨[.d (.int h), .d (.int w), .d (.kt (il ps)), .rf 0, .no, .no, .no], [.l (il cs)]⟩ by rw [stO, List.reverse_reverse]]
    rfl
  · show optO (atD (il (ext ps cs.reverse (w - cs.length).toNat).reverse) (w - 1)) _ = _
    have lt := (List.getElem?_eq_some_iff.mp hv).1
    unfold atD ixN
    rw [if_pos (by omega), if_pos (by rw [List.length_map]; omega)]
    show optO ((il (ext ps cs.reverse (w - cs.length).toNat).reverse)[(w - 1).toNat]?) _ = _
    rw [List.getElem?_map, hv]
    rfl
/-- the member w of the counts: written, or of the sequence -/
theorem member_at (ps cs : List Int) (w : Int) (hd : ps.length ≤ cs.length) (w1 : 1 ≤ w) (hw : (cs.length : Int) < w) :
    (ext ps cs.reverse (w - cs.length).toNat).reverse[(w - 1).toNat]? = some (seqU ps (cs.drop (cs.length - ps.length)).reverse (w - 1 - cs.length + ps.length).toNat) := by
  have e0 : cs.reverse = (cs.drop (cs.length - ps.length)).reverse ++ (cs.take (cs.length - ps.length)).reverse := by
    rw [← List.reverse_append, List.take_append_drop]
  have hl : (cs.drop (cs.length - ps.length)).reverse.length = ps.length := by rw [List.length_reverse, List.length_drop]; omega
  have ht : (cs.take (cs.length - ps.length)).length = cs.length - ps.length := by rw [List.length_take]; omega
  rw [e0, ext_append _ _ _ (by omega), List.reverse_append, List.reverse_reverse, List.getElem?_append_right (by omega), ht]
  rw [show (w - 1).toNat - (cs.length - ps.length) = (w - 1 - cs.length + ps.length).toNat by omega]
  exact seqU_at ps _ _ _ (by rw [hl]; omega)
theorem member_near (ps cs : List Int) (w : Int) (w1 : 1 ≤ w) (hw : w ≤ (cs.length : Int)) : (ext ps cs.reverse (w - cs.length).toNat).reverse[(w - 1).toNat]? = cs[(w - 1).toNat]? := by
  rw [show (w - cs.length).toNat = 0 by omega]
  show cs.reverse.reverse[(w - 1).toNat]? = _
  rw [List.reverse_reverse]
theorem rule_1 : Rn m__law_rule_of 2 [.int 1] (.kt [.int 3, .tup (il [1, 1]), .tup (il [1, 2])]) := rn' rfl
theorem rule_2 : Rn m__law_rule_of 2 [.int 2] (.kt [.int 5, .kt (il [2, 0, 2, -1]), .kt (il [2, 6, 13, 29])]) := rn' rfl
theorem rule_3 : Rn m__law_rule_of 2 [.int 3] (.kt [.int 9, .kt (il [1, 2, 0, 2, -1, -1]), .kt (il [3, 13, 22, 44, 90, 196, 406, 852])]) := rn' rfl
theorem rule_4 : Rn m__law_rule_of 2 [.int 4] (.kt [.int 15, .kt (il [1, 1, 1, -1, 7, -7, 1, -1, -1, -1, 1]), .kt (il [5, 29, 44, 66, 126, 238, 490, 922, 1714, 3306, 6246, 12102, 22994, 43682])]) := rn' rfl
theorem rule_5 : Rn m__law_rule_of 2 [.int 5] (.kt [.int 19, .kt (il [1, 1, -1, 3, -1, 5, -2, -5, -1, -3, -1, -1, 1, 1]), .kt (il [8, 68, 90, 126, 178, 325, 584, 1165, 2030, 3619, 6080, 10987, 19362, 35477, 62360, 111837, 195614, 350707])]) := rn' rfl
theorem crule_1 : Rn m_corridor_rule 1 [.int 1] (.tup [.int 3, .kt (il [1, 1])]) := rn' rfl
theorem crule_5 : Rn m_corridor_rule 1 [.int 5] (.tup [.int 19, .kt (il [1, 1, -1, 3, -1, 5, -2, -5, -1, -3, -1, -1, 1, 1])]) := rn' rfl
theorem ixN_nat {len k : Nat} (h : k < len) : ixN len (k : Int) = some k := by
  unfold ixN
  rw [if_pos (by omega), if_pos (by omega)]
  rfl
abbrev stM (F G : List Int) (P : D) (n : Int) (d : Nat) (x6 x7 x8 x9 x10 : Sl) (H : List Int) : S := ⟨[.d (.lst (il F)), .d (.lst (il G)), .d P, .d (.int n), .d (.int d), .rf 0, x6, x7, x8, x9, x10, .no], [.l (il H)]⟩
theorem getc_at {i : Nat} {mk : M} {st : S} {k : Nat} {H : List Int} {y : Int} (h1 : st.cellOf i = some 0) (h2 : mk st = .ok (.int (k : Nat)) st) (h3 : st.ce[0]? = some (.l (il H))) (h4 : H[k]? = some y) : mIxC i mk st = .ok (.int y) st := by
  have hd : st.isDc 0 = false := by unfold S.isDc; rw [h3]; rfl
  have lt : k < H.length := (List.getElem?_eq_some_iff.mp h4).1
  unfold mIxC
  simp only [h1, hd]
  rw [if_neg (by decide)]
  unfold mIxB
  simp only [h1, h2, bindO, h3]
  show optO (atD (il H) (k : Int)) st = _
  unfold atD
  rw [ixN_nat (by rw [List.length_map]; exact lt)]
  show optO ((il H)[k]?) st = _
  rw [List.getElem?_map, h4]
  rfl
theorem putc_at {i : Nat} {mk mv : M} {st : S} {k : Nat} {H : List Int} {z : Int} (h1 : st.cellOf i = some 0) (h2 : mk st = .ok (.int (k : Nat)) st) (h3 : st.ce[0]? = some (.l (il H))) (h4 : k < H.length) (h5 : mv st = .ok (.int z) st) : mPutL i mk mv st = .nx (st.setC 0 (.l (il (H.set k z)))) := by
  unfold mPutL
  simp only [h1, h2, bindS, h3, h5]
  rw [ixN_nat (by rw [List.length_map]; exact h4)]
  show SO.nx (st.setC 0 (Ce.l ((il H).set k (D.int z)))) = _
  rw [il_set]
abbrev ltB : MS := (mPutL 5 (mBin addKD (mVarF 6) (mVarF 8)) (mBin addKD (mIxC 5 (mBin addKD (mVarF 6) (mVarF 8))) (mBin mulKD (mVarF 7) (mVarF 9))))
theorem mulS_at (a b : Int) (h : smallI a = true) : mulKD (.int a) (.int b) = some (.int (a * b)) := by
  show (if (smallI a || smallI b) = true then some (D.int (a * b)) else none) = _
  rw [h, Bool.true_or, if_pos rfl]
theorem lt_in (F G : List Int) (P : D) (n : Int) (d i : Nat) (c : Int) (hc : smallI c = true) (x10 : Sl) : ∀ (q : List Int) (k : Nat) (H : List Int) (x8 x9 : Sl), i + k + q.length ≤ H.length →
    ∃ x8' x9', loopS (tgTup [8, 9]) ltB (enumFrom k (il q)) (stM F G P n d (.d (.int i)) (.d (.int c)) x8 x9 x10 H) = .nx (stM F G P n d (.d (.int i)) (.d (.int c)) x8' x9' x10 (addAt (i + k) c q H))
  | [], k, H, x8, x9, _ => ⟨x8, x9, by rw [addAt_nil]; rfl⟩
  | x :: q, k, H, x8, x9, h => by
    simp only [List.length_cons] at h
    obtain ⟨y, hy⟩ : ∃ y, H[i + k]? = some y := ⟨_, List.getElem?_eq_getElem (by omega)⟩
    have ek : (mBin addKD (mVarF 6) (mVarF 8)) (stM F G P n d (.d (.int i)) (.d (.int c)) (.d (.int k)) (.d (.int x)) x10 H) = .ok (.int ((i + k : Nat) : Int)) (stM F G P n d (.d (.int i)) (.d (.int c)) (.d (.int k)) (.d (.int x)) x10 H) := by
      refine bin_at (f := addKD) (a := .int i) (b := .int k) rfl rfl ?_
      rw [Int.natCast_add]
      rfl
    have e1 : ltB (stM F G P n d (.d (.int i)) (.d (.int c)) (.d (.int k)) (.d (.int x)) x10 H) = .nx (stM F G P n d (.d (.int i)) (.d (.int c)) (.d (.int k)) (.d (.int x)) x10 (H.set (i + k) (y + c * x))) :=
      putc_at (H := H) rfl ek rfl (by omega) (bin_at (f := addKD) (a := .int y) (b := .int (c * x)) (getc_at (H := H) rfl ek rfl hy) (bin_at (f := mulKD) (a := .int c) (b := .int x) rfl rfl (mulS_at c x hc)) rfl)
    obtain ⟨x8', x9', e⟩ := lt_in F G P n d i c hc x10 q (k + 1) (H.set (i + k) (y + c * x)) (.d (.int k)) (.d (.int x)) (by rw [List.length_set]; omega)
    refine ⟨x8', x9', ?_⟩
    show (match ltB (stM F G P n d (.d (.int i)) (.d (.int c)) (.d (.int k)) (.d (.int x)) x10 H) with
      | .nx st2 => loopS (tgTup [8, 9]) ltB (enumFrom (k + 1) (il q)) st2
      | .ct st2 => loopS (tgTup [8, 9]) ltB (enumFrom (k + 1) (il q)) st2
      | .bk st2 => .nx st2
      | o => o) = _
    rw [e1, addAt_step c x (i + k) q H y hy]
    exact e
abbrev ltO : MS := (mFor (miFun enumAF (mCons (mVarF 1) mNil)) (tgTup [8, 9]) ltB)
theorem lt_out (F G : List Int) (P : D) (n : Int) (d : Nat) (x10 : Sl) : ∀ (p : List Int) (i : Nat) (H : List Int) (x6 x7 x8 x9 : Sl), (∀ c ∈ p, smallI c = true) → i + p.length + G.length ≤ H.length + 1 →
    ∃ x6' x7' x8' x9', loopS (tgTup [6, 7]) ltO (enumFrom i (il p)) (stM F G P n d x6 x7 x8 x9 x10 H) = .nx (stM F G P n d x6' x7' x8' x9' x10 (convA i p G H))
  | [], i, H, x6, x7, x8, x9, _, _ => ⟨x6, x7, x8, x9, rfl⟩
  | c :: p, i, H, x6, x7, x8, x9, hs, h => by
    simp only [List.length_cons] at h
    obtain ⟨x8', x9', e1⟩ := lt_in F G P n d i c (hs c (List.mem_cons_self ..)) x10 G 0 H x8 x9 (by omega)
    obtain ⟨y6, y7, y8, y9, e2⟩ := lt_out F G P n d x10 p (i + 1) (addAt i c G H) (.d (.int i)) (.d (.int c)) x8' x9' (fun z m => hs z (List.mem_cons_of_mem _ m)) (by rw [addAt_len]; omega)
    refine ⟨y6, y7, y8, y9, ?_⟩
    have e1 : ltO (stM F G P n d (.d (.int i)) (.d (.int c)) x8 x9 x10 H) = .nx (stM F G P n d (.d (.int i)) (.d (.int c)) x8' x9' x10 (addAt i c G H)) := e1
    show (match ltO (stM F G P n d (.d (.int i)) (.d (.int c)) x8 x9 x10 H) with
      | .nx st2 => loopS (tgTup [6, 7]) ltO (enumFrom (i + 1) (il p)) st2
      | .ct st2 => loopS (tgTup [6, 7]) ltO (enumFrom (i + 1) (il p)) st2
      | .bk st2 => .nx st2
      | o => o) = _
    rw [e1]
    exact e2
abbrev rdB : MS := (mPutL 5 (mBin subD (mBin subD (mVarF 6) (mC (.int 1))) (mVarF 8)) (mBin addKD (mIxC 5 (mBin subD (mBin subD (mVarF 6) (mC (.int 1))) (mVarF 8))) (mBin mulKD (mIxC 5 (mVarF 6)) (mVarF 10))))
theorem mid_get (A B : List Int) (y : Int) : (A ++ y :: B)[A.length]? = some y := by
  rw [List.getElem?_append_right (Nat.le_refl _), Nat.sub_self]
  rfl
theorem mid_set (A B : List Int) (y z : Int) : (A ++ y :: B).set A.length z = A ++ z :: B := by
  rw [List.set_append_right _ _ (Nat.le_refl _), Nat.sub_self]
  rfl
theorem rd_in (F G : List Int) (P : D) (n : Int) (d i : Nat) (l : Int) (dead : List Int) (x7 x9 : Sl) : ∀ (qs todo Bd : List Int) (x8 x10 : Sl), qs.length ≤ todo.length → (∀ p ∈ qs, smallI p = true) → i = todo.length + Bd.length →
    ∃ x8' x10', loopS (tgTup [8, 10]) rdB (enumFrom Bd.length (il qs)) (stM F G P n d (.d (.int i)) x7 x8 x9 x10 (todo.reverse ++ (Bd ++ l :: dead))) = .nx (stM F G P n d (.d (.int i)) x7 x8' x9 x10' ((addp none qs l todo).reverse ++ (Bd ++ l :: dead)))
  | [], todo, Bd, x8, x10, _, _, _ => ⟨x8, x10, rfl⟩
  | c :: qs, [], Bd, x8, x10, h, _, _ => by simp at h
  | c :: qs, y :: ys, Bd, x8, x10, h, hs, hi => by
    simp only [List.length_cons] at h hi
    have e0 : (y :: ys).reverse ++ (Bd ++ l :: dead) = ys.reverse ++ y :: (Bd ++ l :: dead) := by rw [List.reverse_cons, List.append_assoc]; rfl
    have g1 : (ys.reverse ++ y :: (Bd ++ l :: dead))[ys.length]? = some y := by
      have := mid_get ys.reverse (Bd ++ l :: dead) y
      rwa [List.length_reverse] at this
    have g2 : (ys.reverse ++ y :: (Bd ++ l :: dead))[i]? = some l := by
      have := mid_get (ys.reverse ++ y :: Bd) dead l
      rw [List.append_assoc, List.length_append, List.length_reverse, List.length_cons] at this
      rw [show i = ys.length + (Bd.length + 1) by omega]
      exact this
    have ek : (mBin subD (mBin subD (mVarF 6) (mC (.int 1))) (mVarF 8)) (stM F G P n d (.d (.int i)) x7 (.d (.int Bd.length)) x9 (.d (.int c)) (ys.reverse ++ y :: (Bd ++ l :: dead))) = .ok (.int (ys.length : Nat)) (stM F G P n d (.d (.int i)) x7 (.d (.int Bd.length)) x9 (.d (.int c)) (ys.reverse ++ y :: (Bd ++ l :: dead))) := by
      refine bin_at (f := subD) (a := .int ((i : Int) - 1)) (b := .int Bd.length) (bin_at (f := subD) (a := .int i) (b := .int 1) rfl rfl rfl) rfl ?_
      show some (D.int ((i : Int) - 1 - (Bd.length : Nat))) = _
      congr 2
      omega
    have ey : mIxC 5 (mBin subD (mBin subD (mVarF 6) (mC (.int 1))) (mVarF 8)) (stM F G P n d (.d (.int i)) x7 (.d (.int Bd.length)) x9 (.d (.int c)) (ys.reverse ++ y :: (Bd ++ l :: dead))) = .ok (.int y) (stM F G P n d (.d (.int i)) x7 (.d (.int Bd.length)) x9 (.d (.int c)) (ys.reverse ++ y :: (Bd ++ l :: dead))) := getc_at (H := ys.reverse ++ y :: (Bd ++ l :: dead)) rfl ek rfl g1
    have el : mIxC 5 (mVarF 6) (stM F G P n d (.d (.int i)) x7 (.d (.int Bd.length)) x9 (.d (.int c)) (ys.reverse ++ y :: (Bd ++ l :: dead))) = .ok (.int l) (stM F G P n d (.d (.int i)) x7 (.d (.int Bd.length)) x9 (.d (.int c)) (ys.reverse ++ y :: (Bd ++ l :: dead))) := getc_at (H := ys.reverse ++ y :: (Bd ++ l :: dead)) (k := i) rfl rfl rfl g2
    have e1 : rdB (stM F G P n d (.d (.int i)) x7 (.d (.int Bd.length)) x9 (.d (.int c)) (ys.reverse ++ y :: (Bd ++ l :: dead))) = .nx (stM F G P n d (.d (.int i)) x7 (.d (.int Bd.length)) x9 (.d (.int c)) (ys.reverse ++ (y + l * c) :: (Bd ++ l :: dead))) := by
      refine (putc_at (i := 5) (H := ys.reverse ++ y :: (Bd ++ l :: dead)) (z := y + l * c) rfl ek rfl (by simp) (bin_at (f := addKD) (a := .int y) (b := .int (l * c)) ey (bin_at (f := mulKD) (a := .int l) (b := .int c) (mb := mVarF 10) el rfl (mul_small l c (hs c (List.mem_cons_self ..)))) rfl)).trans ?_
      have := mid_set ys.reverse (Bd ++ l :: dead) y (y + l * c)
      rw [List.length_reverse] at this
      rw [this]
      rfl
    obtain ⟨x8', x10', e⟩ := rd_in F G P n d i l dead x7 x9 qs ys ((y + l * c) :: Bd) (.d (.int Bd.length)) (.d (.int c)) (by omega) (fun p m => hs p (List.mem_cons_of_mem _ m)) (by rw [List.length_cons]; omega)
    refine ⟨x8', x10', ?_⟩
    rw [e0]
    show (match rdB (stM F G P n d (.d (.int i)) x7 (.d (.int Bd.length)) x9 (.d (.int c)) (ys.reverse ++ y :: (Bd ++ l :: dead))) with
      | .nx st2 => loopS (tgTup [8, 10]) rdB (enumFrom (Bd.length + 1) (il qs)) st2
      | .ct st2 => loopS (tgTup [8, 10]) rdB (enumFrom (Bd.length + 1) (il qs)) st2
      | .bk st2 => .nx st2
      | o => o) = _
    rw [e1]
    refine Eq.trans e ?_
    show SO.nx (stM F G P n d (.d (.int i)) x7 x8' x9 x10' ((addp none qs l ys).reverse ++ (((y + l * c) :: Bd) ++ l :: dead))) = SO.nx (stM F G P n d (.d (.int i)) x7 x8' x9 x10' (((y + l * c) :: addp none qs l ys).reverse ++ (Bd ++ l :: dead)))
    rw [List.reverse_cons, List.append_assoc]
    rfl
def dn (d : Nat) : Nat → List D
  | 0 => []
  | m + 1 => .int ((d + m : Nat) : Int) :: dn d m
abbrev rdO : MS := (mFor (miFun enumAF (mCons (mVarF 2) mNil)) (tgTup [8, 10]) rdB)
theorem rd_out (F G ps : List Int) (P : D) (n : Int) (d : Nat) (hP : seqW P = some (il ps)) (hd : ps.length = d) (hs : ∀ p ∈ ps, smallI p = true) (x7 x9 : Sl) : ∀ (m : Nat) (X dead : List Int) (x6 x8 x10 : Sl), X.length = d + m →
    ∃ (x6' x8' x10' : Sl) (X' dead' : List Int), loopS (tgName 6) rdO (dn d m) (stM F G P n d x6 x7 x8 x9 x10 (X.reverse ++ dead)) = .nx (stM F G P n d x6' x7 x8' x9 x10' (X'.reverse ++ dead')) ∧ X'.length = d ∧ ∀ u a, Goes u ps → Rep u n X.reverse a → Rep u n X'.reverse a
  | 0, X, dead, x6, x8, x10, h => ⟨x6, x8, x10, X, dead, rfl, h, fun u a g R => R⟩
  | m + 1, [], dead, x6, x8, x10, h => by rw [List.length_nil] at h; omega
  | m + 1, l :: r, dead, x6, x8, x10, h => by
    rw [List.length_cons] at h
    obtain ⟨x8', x10', e1⟩ := rd_in F G P n d (d + m) l dead x7 x9 ps r [] x8 x10 (by omega) hs (by rw [List.length_nil]; omega)
    have e1 : rdO (stM F G P n d (.d (.int ((d + m : Nat) : Int))) x7 x8 x9 x10 ((l :: r).reverse ++ dead)) = .nx (stM F G P n d (.d (.int ((d + m : Nat) : Int))) x7 x8' x9 x10' ((addp none ps l r).reverse ++ l :: dead)) := by
      rw [List.reverse_cons, List.append_assoc]
      unfold rdO mFor
      rw [mifun_at (f := enumAF) (ma := (mCons (mVarF 2) mNil)) (ds := [P]) (es := enumFrom 0 (il ps)) (st1 := (stM F G P n d (.d (.int ((d + m : Nat) : Int))) x7 x8 x9 x10 (r.reverse ++ ([l] ++ dead)))) rfl (by unfold enumAF; simp only [hP])]
      exact e1
    obtain ⟨x6'', x8'', x10'', X', dead', e2, e3, e4⟩ := rd_out F G ps P n d hP hd hs x7 x9 m (addp none ps l r) (l :: dead) (.d (.int ((d + m : Nat) : Int))) x8' x10' (by rw [addp_len]; omega)
    refine ⟨x6'', x8'', x10'', X', dead', ?_, e3, fun u a g R => e4 u a g (Rep.strike g (.inl rfl) (by omega) R)⟩
    show (match rdO (stM F G P n d (.d (.int ((d + m : Nat) : Int))) x7 x8 x9 x10 ((l :: r).reverse ++ dead)) with
      | .nx st2 => loopS (tgName 6) rdO (dn d m) st2
      | .ct st2 => loopS (tgName 6) rdO (dn d m) st2
      | .bk st2 => .nx st2
      | o => o) = _
    rw [e1]
    exact e2
theorem lam_md (u : Nat → Int) (n : Int) : ∀ (t : Nat) (xs : List Int), Cg n (lam u t (xs.map (· % n))) (lam u t xs)
  | t, [] => Cg.refl _ _
  | t, c :: xs => by
    show Cg n (c % n * u t + lam u (t + 1) (xs.map (· % n))) (c * u t + lam u (t + 1) xs)
    exact ((Cg.mod n c).mulR _).add (lam_md u n (t + 1) xs)
theorem Rep.md {u : Nat → Int} {n : Int} {xs : List Int} {a : Nat} (h : Rep u n xs a) : Rep u n (xs.map (· % n)) a := fun t => (lam_md u n t xs).trans (h t)
theorem cut_front (H : List Int) (d : Nat) : cutD (il H) none (some ((d : Nat) : Int)) = il (H.take d) := by
  unfold cutD
  rw [HT.sIx_nat, HT.sIx_none, List.drop_zero, Nat.sub_zero]
  show List.take (min d (H.map D.int).length) (H.map D.int) = (H.take d).map D.int
  rw [List.map_take, List.take_eq_take_iff, List.length_map]
  omega
theorem ltimes_ex (ps : List Int) (P : D) (n : Int) (n0 : 0 < n) (hP : seqW P = some (il ps)) (hL : lenD [P] = some (.int (ps.length : Nat))) (hs : ∀ p ∈ ps, smallI p = true) (h1 : 1 ≤ ps.length) (hp : ps.length ≤ 50)
    (hR : range3F [.int (2 * (ps.length : Nat) - 2), .int ((ps.length : Nat) - 1), .int (-1)] = some (dn ps.length (ps.length - 1))) (F G : List Int) (hF : F.length = ps.length) (hG : G.length = ps.length) (hc : ∀ c ∈ F, smallI c = true) :
    ∃ R : List Int, Rn m__law_times 12 [.lst (il F), .lst (il G), P, .int n] (.lst (il R)) ∧ R.length = ps.length ∧ (∀ c ∈ R, 0 ≤ c ∧ c < n) ∧ ∀ u a b, Goes u ps → Rep u n F a → Rep u n G b → Rep u n R (a + b) := by
  obtain ⟨x6, x7, x8, x9, e⟩ := lt_out F G P n ps.length .no F 0 (List.replicate (2 * ps.length - 1) 0) .no .no .no .no hc (by rw [List.length_replicate]; omega)
  have hX : (convA 0 F G (List.replicate (2 * ps.length - 1) 0)).reverse.length = ps.length + (ps.length - 1) := by rw [List.length_reverse, convA_len, List.length_replicate]; omega
  obtain ⟨y6, y8, y10, X', dead', e2, e3, e4⟩ := rd_out F G ps P n ps.length hP rfl hs x7 x9 (ps.length - 1) _ [] x6 x8 .no hX
  rw [List.reverse_reverse, List.append_nil] at e2
  refine ⟨X'.reverse.map (· % n), ?_, by rw [List.length_map, List.length_reverse, e3], fun c m => ?_, fun u a b g RF RG => Rep.md (e4 u (a + b) g ?_)⟩
  · refine rn (st' := (stM F G P n ps.length y6 x7 y8 x9 y10 (X'.reverse ++ dead')).frz 0 (.lst (il (X'.reverse ++ dead')))) ?_
    unfold m__law_times
    refine seq_to (st1 := ⟨[.d (.lst (il F)), .d (.lst (il G)), .d P, .d (.int n), .d (.int (ps.length : Nat)), .no, .no, .no, .no, .no, .no, .no], []⟩) ((asg_at (fun_at (ds := [P]) (st1 := ⟨[.d (.lst (il F)), .d (.lst (il G)), .d P, .d (.int n), .no, .no, .no, .no, .no, .no, .no, .no], []⟩) rfl hL)).trans rfl) ?_
    have hl : (mBin subD (mBin mulKD (mC (.int 2)) (mVarF 4)) (mC (.int 1))) ⟨[.d (.lst (il F)), .d (.lst (il G)), .d P, .d (.int n), .d (.int (ps.length : Nat)), .no, .no, .no, .no, .no, .no, .no], []⟩ = .ok (.int ((2 * ps.length - 1 : Nat) : Int)) ⟨[.d (.lst (il F)), .d (.lst (il G)), .d P, .d (.int n), .d (.int (ps.length : Nat)), .no, .no, .no, .no, .no, .no, .no], []⟩ := by
      show O.ok (D.int (2 * ((ps.length : Nat) : Int) - 1)) _ = _
      congr 2
      omega
    have hz : (List.replicate (2 * ps.length - 1) [D.int 0]).flatten = il (List.replicate (2 * ps.length - 1) 0) := by
      simp [il]
    have hq := fmul_at (ma := mLst (mCons (mC (.int 0)) mNil)) (ds := [.int 0]) rfl hl (by omega) (by omega) (by decide)
    rw [Int.toNat_natCast, hz] at hq
    refine seq_to (st1 := stM F G P n ps.length .no .no .no .no .no (List.replicate (2 * ps.length - 1) 0)) (by unfold mSetF; rw [hq]; rfl) ?_
    refine seq_to e (seq_to (st1 := stM F G P n ps.length y6 x7 y8 x9 y10 (X'.reverse ++ dead')) ?_ ?_)
    · have er : (mCons (mBin subD (mBin mulKD (mC (.int 2)) (mVarF 4)) (mC (.int 2))) (mCons (mBin subD (mVarF 4) (mC (.int 1))) (mCons (mNeg (mC (.int 1))) mNil))) (stM F G P n ps.length x6 x7 x8 x9 .no (convA 0 F G (List.replicate (2 * ps.length - 1) 0))) = .ok [.int (2 * (ps.length : Nat) - 2), .int ((ps.length : Nat) - 1), .int (-1)] (stM F G P n ps.length x6 x7 x8 x9 .no (convA 0 F G (List.replicate (2 * ps.length - 1) 0))) := rfl
      unfold mFor
      rw [mifun_at er hR]
      exact e2
    · have ht : (X'.reverse ++ dead').take ps.length = X'.reverse := by
        rw [List.take_append_of_le_length (by rw [List.length_reverse]; omega), List.take_of_length_le (by rw [List.length_reverse]; omega)]
      refine ret_at ?_
      have es : (miSeq (mSlK (mVarF 5) mPN (mPS (mVarF 4)))) (stM F G P n ps.length y6 x7 y8 x9 y10 (X'.reverse ++ dead')) = .ok (il X'.reverse) ((stM F G P n ps.length y6 x7 y8 x9 y10 (X'.reverse ++ dead')).frz 0 (.lst (il (X'.reverse ++ dead')))) := by
        show O.ok (cutD (il (X'.reverse ++ dead')) none (some ((ps.length : Nat) : Int))) _ = _
        rw [cut_front, ht]
      unfold mLc
      rw [es]
      have q := lc_all (i := D.int) (f := fun c => D.int (c % n)) (mi := fun st => .ok (il X'.reverse) st) (tg := tgName 11) (me := (mBin modD (mFun intD (mCons (mVarF 11) mNil)) (mVarF 3))) (vs := [11]) (st := ((stM F G P n ps.length y6 x7 y8 x9 y10 (X'.reverse ++ dead')).frz 0 (.lst (il (X'.reverse ++ dead'))))) X'.reverse rfl (by rw [List.length_reverse]; omega) fun c m => by
        refine ⟨(wipeS ((stM F G P n ps.length y6 x7 y8 x9 y10 (X'.reverse ++ dead')).frz 0 (.lst (il (X'.reverse ++ dead')))).sl [11]).set 11 (.d (.int c)), rfl, ?_⟩
        exact bin_at (f := modD) (a := .int c) (b := .int n) rfl rfl (mod_at c n n0)
      rw [show il (X'.reverse.map (· % n)) = X'.reverse.map (fun c => D.int (c % n)) by simp [il]]
      exact q
  · obtain ⟨y, _, rfl⟩ := List.mem_map.mp m
    exact ⟨Int.emod_nonneg _ (by omega), Int.emod_lt_of_pos _ n0⟩
  · rw [List.reverse_reverse]
    exact Rep.conv RF RG (by omega)
def bitsV : List Int → Nat
  | [] => 0
  | b :: bs => (if b = 1 then 1 else 0) + 2 * bitsV bs
abbrev stR (h w n b : Int) (P Fi : D) (d : Nat) (left : Int) (x9 x10 : Sl) (B : List Int) : S := ⟨[.d (.int h), .d (.int w), .d (.int n), .d (.int b), .d P, .d Fi, .d (.int d), .rf 0, .d (.int left), x9, x10, .no, .no, .no], [.l (il B)]⟩
abbrev bwT : MT := (mB (mBin gtD (mVarF 8) (mC (.int 0))))
abbrev bwB : MS := (mSeq (mDrop (mApp 7 (mBin modD (mFun intD (mCons (mVarF 8) mNil)) (mC (.int 2)))))
    (mAsg 8 (mBin divD (mVarF 8) (mC (.int 2)))))
theorem bw_while (h w n b : Int) (P Fi : D) (d : Nat) : ∀ (k f left : Nat) (B : List Int), left < 2 ^ k → k < f → B.length + k ≤ 1000 →
    ∃ bs : List Int, whileS bwT bwB f (stR h w n b P Fi d left .no .no B) = .nx (stR h w n b P Fi d 0 .no .no (B ++ bs)) ∧ bitsV bs = left ∧ bs.length ≤ k
  | k, 0, left, B, _, hf, _ => by omega
  | k, f + 1, left, B, hl, hf, hB => by
    have c : bwT (stR h w n b P Fi d left .no .no B) = .ok (decide ((0 : Int) < (left : Int))) (stR h w n b P Fi d left .no .no B) := b_at (bin_at (f := gtD) (a := .int left) (b := .int 0) rfl rfl rfl)
    by_cases z : left = 0
    · subst z
      refine ⟨[], ?_, rfl, Nat.zero_le _⟩
      unfold whileS
      rw [c, List.append_nil]
      rfl
    · obtain ⟨k', rfl⟩ : ∃ k', k = k' + 1 := ⟨k - 1, by
        cases k with
        | zero => simp at hl; omega
        | succ k => omega⟩
      rw [decide_eq_true (by omega : (0 : Int) < (left : Int))] at c
      have e1 : bwB (stR h w n b P Fi d left .no .no B) = .nx (stR h w n b P Fi d ((left / 2 : Nat) : Int) .no .no (B ++ [((left % 2 : Nat) : Int)])) := by
        refine seq_to (st1 := stR h w n b P Fi d left .no .no (B ++ [((left % 2 : Nat) : Int)])) (drop_at (d := .non) ?_) ?_
        · have em : (mBin modD (mFun intD (mCons (mVarF 8) mNil)) (mC (.int 2))) (stR h w n b P Fi d left .no .no B) = .ok (.int ((left : Int) % 2)) (stR h w n b P Fi d left .no .no B) := bin_at (f := modD) (a := .int left) (b := .int 2) rfl rfl (mod_at _ 2 (by decide))
          rw [app_at (i := 7) (k := 0) (ds := il B) (d := .int ((left : Int) % 2)) (st1 := stR h w n b P Fi d left .no .no B) rfl rfl em rfl (by rw [List.length_map]; show _ ≤ 100000; omega)]
          show O.ok D.non (S.mk _ [.l (il B ++ [.int ((left : Int) % 2)])]) = _
          rw [show il B ++ [.int ((left : Int) % 2)] = il (B ++ [((left % 2 : Nat) : Int)]) by simp [il]]
        · refine (asg_at (d := .int ((left / 2 : Nat) : Int)) (st1 := stR h w n b P Fi d left .no .no (B ++ [((left % 2 : Nat) : Int)])) (bin_at (f := divD) (a := .int left) (b := .int 2) rfl rfl ?_)).trans rfl
          show (if (0 : Int) < 2 ∧ (2 : Int) < 1073741824 then some (D.int ((left : Int) / 2)) else none) = _
          rw [if_pos ⟨by decide, by decide⟩, Int.natCast_ediv]
          rfl
      obtain ⟨bs, e2, e3, e4⟩ := bw_while h w n b P Fi d k' f (left / 2) (B ++ [((left % 2 : Nat) : Int)]) (by rw [Nat.pow_succ] at hl; omega) (by omega) (by rw [List.length_append, List.length_singleton]; omega)
      refine ⟨((left % 2 : Nat) : Int) :: bs, ?_, ?_, by rw [List.length_cons]; omega⟩
      · unfold whileS
        rw [c]
        show (match bwB (stR h w n b P Fi d left .no .no B) with
          | .nx st2 => whileS bwT bwB f st2
          | .ct st2 => whileS bwT bwB f st2
          | .bk st2 => .nx st2
          | o => o) = _
        rw [e1]
        rw [List.append_assoc] at e2
        exact e2
      · show (if ((left % 2 : Nat) : Int) = 1 then 1 else 0) + 2 * bitsV bs = left
        rw [e3]
        rcases Nat.mod_two_eq_zero_or_one left with q | q <;> rw [q] <;> simp <;> omega
theorem rev_all (B : List Int) : stepIx (il B) none none (some (-1)) = il B.reverse := by
  by_cases z : B = []
  · subst z; rfl
  have h1 : 1 ≤ B.length := by
    cases B with
    | nil => exact absurd rfl z
    | cons x B => simp
  have q := step_end B.reverse B.length h1 (by rw [List.length_reverse]; exact Nat.le_refl _)
  rw [List.reverse_reverse, List.take_of_length_le (by rw [List.length_reverse]; exact Nat.le_refl _)] at q
  rw [← q]
  have hn : (il B).length = B.length := by rw [List.length_map]
  unfold stepIx
  rw [hn, bounds_end B.length B.length h1 (Nat.le_refl _)]
  have e : sliceBounds none none (some (-1)) B.length = ((B.length : Int) - 1, -1, -1) := by
    unfold sliceBounds
    simp only [Option.getD_some]
    rw [if_neg (by decide : ¬ (-1 : Int) > 0), if_neg (by decide : ¬ (-1 : Int) > 0)]
  rw [e]
  show List.filterMap _ (sliceRange ((B.length : Int) - 1) (-1) (-1)) = List.filterMap _ (sliceRange ((B.length : Int) - 1) ((B.length : Int) - B.length - 1) (-1))
  rw [show (B.length : Int) - B.length - 1 = -1 by omega]
abbrev stD (h w n b : Int) (P Fi : D) (d : Nat) (bits : D) (F : List Int) (x10 : Sl) : S := ⟨[.d (.int h), .d (.int w), .d (.int n), .d (.int b), .d P, .d Fi, .d (.int d), .d bits, .d (.int 0), .d (.lst (il F)), x10, .no, .no, .no], [.dead]⟩
abbrev dbB : MS := (mSeq (mAsg 9 (mCall m__law_times 12 [] (mCons (mVarF 9) (mCons (mVarF 9) (mCons (mVarF 4) (mCons (mVarF 2) mNil))))))
    (mIf (mB (mBin eqD (mVarF 10) (mC (.int 1))))
    (mAsg 9 (mCall m__law_times 12 [] (mCons (mVarF 9) (mCons (mBin addKD (mLst (mCons (mC (.int 0)) (mCons (mC (.int 1)) mNil))) (mBin mulKD (mLst (mCons (mC (.int 0)) mNil)) (mBin subD (mVarF 6) (mC (.int 2))))) (mCons (mVarF 4) (mCons (mVarF 2) mNil))))))
    mSkip))
def upV : Nat → List Int → Nat
  | a, [] => a
  | a, b :: bs => upV (a + a + (if b = 1 then 1 else 0)) bs
theorem upV_append : ∀ (a : Nat) (bs cs : List Int), upV a (bs ++ cs) = upV (upV a bs) cs
  | _, [], _ => rfl
  | a, b :: bs, cs => upV_append _ bs cs
theorem upV_rev : ∀ bs : List Int, upV 0 bs.reverse = bitsV bs
  | [] => rfl
  | b :: bs => by
    rw [List.reverse_cons, upV_append, upV_rev bs]
    show bitsV bs + bitsV bs + (if b = 1 then 1 else 0) = (if b = 1 then 1 else 0) + 2 * bitsV bs
    omega
/-- what is asked of a rule's parts -/
structure Parts (ps : List Int) (P : D) : Prop where
  hP : seqW P = some (il ps)
  hL : lenD [P] = some (.int (ps.length : Nat))
  hs : ∀ p ∈ ps, smallI p = true
  h2 : 2 ≤ ps.length
  hp : ps.length ≤ 50
  hR : range3F [.int (2 * (ps.length : Nat) - 2), .int ((ps.length : Nat) - 1), .int (-1)] = some (dn ps.length (ps.length - 1))
theorem eqI_at (a b : Int) : eqD (.int a) (.int b) = some (.bl (decide (a = b))) := by
  show some (D.bl (PyData.eqv (.int a) (.int b))) = _
  congr 2
theorem db_loop (h w n b : Int) (P Fi : D) (ps : List Int) (pt : Parts ps P) (n0 : 0 < n) (n1 : n < 18446744073709551616) (bits : D) : ∀ (L : List Int) (F : List Int) (x10 : Sl), F.length = ps.length → (∀ c ∈ F, smallI c = true) →
    ∃ F' x10', loopS (tgName 10) dbB (il L) (stD h w n b P Fi ps.length bits F x10) = .nx (stD h w n b P Fi ps.length bits F' x10') ∧ F'.length = ps.length ∧ ∀ u a, Goes u ps → Rep u n F a → Rep u n F' (upV a L)
  | [], F, x10, hF, _ => ⟨F, x10, rfl, hF, fun u a g R => R⟩
  | z :: L, F, x10, hF, hc => by
    obtain ⟨R1, r1, r2, r3, r4⟩ := ltimes_ex ps P n n0 pt.hP pt.hL pt.hs (by have := pt.h2; omega) pt.hp pt.hR F F hF hF hc
    have c1 : ∀ c ∈ R1, smallI c = true := fun c m => small_at (by have := r3 c m; omega) (by have := r3 c m; omega)
    have e1 : (mAsg 9 (mCall m__law_times 12 [] (mCons (mVarF 9) (mCons (mVarF 9) (mCons (mVarF 4) (mCons (mVarF 2) mNil)))))) (stD h w n b P Fi ps.length bits F (.d (.int z))) = .nx (stD h w n b P Fi ps.length bits R1 (.d (.int z))) :=
      (asg_at (call_at (as := [.lst (il F), .lst (il F), P, .int n]) (st1 := stD h w n b P Fi ps.length bits F (.d (.int z))) rfl r1)).trans rfl
    have ct : (mB (mBin eqD (mVarF 10) (mC (.int 1)))) (stD h w n b P Fi ps.length bits R1 (.d (.int z))) = .ok (decide (z = 1)) (stD h w n b P Fi ps.length bits R1 (.d (.int z))) := b_at (bin_at (f := eqD) (a := .int z) (b := .int 1) rfl rfl (eqI_at z 1))
    have step : ∃ F1, dbB (stD h w n b P Fi ps.length bits F (.d (.int z))) = .nx (stD h w n b P Fi ps.length bits F1 (.d (.int z))) ∧ F1.length = ps.length ∧ (∀ c ∈ F1, smallI c = true) ∧ ∀ u a, Goes u ps → Rep u n F a → Rep u n F1 (a + a + (if z = 1 then 1 else 0)) := by
      by_cases q : z = 1
      · rw [decide_eq_true q] at ct
        obtain ⟨R2, s1, s2, s3, s4⟩ := ltimes_ex ps P n n0 pt.hP pt.hL pt.hs (by have := pt.h2; omega) pt.hp pt.hR R1 (0 :: 1 :: List.replicate (ps.length - 2) 0) r2 (by have := pt.h2; simp; omega) c1
        have ea : (mBin addKD (mLst (mCons (mC (.int 0)) (mCons (mC (.int 1)) mNil))) (mBin mulKD (mLst (mCons (mC (.int 0)) mNil)) (mBin subD (mVarF 6) (mC (.int 2))))) (stD h w n b P Fi ps.length bits R1 (.d (.int z))) = .ok (.lst (il (0 :: 1 :: List.replicate (ps.length - 2) 0))) (stD h w n b P Fi ps.length bits R1 (.d (.int z))) := by
          have em : (mBin mulKD (mLst (mCons (mC (.int 0)) mNil)) (mBin subD (mVarF 6) (mC (.int 2)))) (stD h w n b P Fi ps.length bits R1 (.d (.int z))) = .ok (.lst (il (List.replicate (ps.length - 2) 0))) (stD h w n b P Fi ps.length bits R1 (.d (.int z))) := by
            refine bin_at (f := mulKD) (a := .lst [.int 0]) (b := .int ((ps.length : Int) - 2)) rfl rfl ?_
            have h2 := pt.h2
            have hp := pt.hp
            show (if 0 ≤ ((ps.length : Int) - 2) ∧ ((ps.length : Int) - 2) ≤ 1000 ∧ [D.int 0].length ≤ 100 then some (D.lst (List.replicate ((ps.length : Int) - 2).toNat [D.int 0]).flatten) else none) = _
            rw [if_pos ⟨by omega, by omega, by decide⟩, show ((ps.length : Int) - 2).toNat = ps.length - 2 by omega]
            simp [il]
          refine bin_at (f := addKD) (a := .lst [.int 0, .int 1]) (b := .lst (il (List.replicate (ps.length - 2) 0))) (st1 := stD h w n b P Fi ps.length bits R1 (.d (.int z))) rfl em ?_
          show (if 2 + (il (List.replicate (ps.length - 2) 0)).length ≤ lim then some (D.lst ([.int 0, .int 1] ++ il (List.replicate (ps.length - 2) 0))) else none) = _
          have hp := pt.hp
          rw [if_pos (by rw [List.length_map, List.length_replicate]; show _ ≤ 100000; omega)]
          rfl
        have e6 : (mCons (mVarF 9) (mCons (mBin addKD (mLst (mCons (mC (.int 0)) (mCons (mC (.int 1)) mNil))) (mBin mulKD (mLst (mCons (mC (.int 0)) mNil)) (mBin subD (mVarF 6) (mC (.int 2))))) (mCons (mVarF 4) (mCons (mVarF 2) mNil)))) (stD h w n b P Fi ps.length bits R1 (.d (.int z))) = .ok [.lst (il R1), .lst (il (0 :: 1 :: List.replicate (ps.length - 2) 0)), P, .int n] (stD h w n b P Fi ps.length bits R1 (.d (.int z))) := cons_at (m := mVarF 9) (d := .lst (il R1)) (st1 := stD h w n b P Fi ps.length bits R1 (.d (.int z))) rfl (cons_at ea (ms := (mCons (mVarF 4) (mCons (mVarF 2) mNil))) rfl)
        have e7 : (mAsg 9 (mCall m__law_times 12 [] (mCons (mVarF 9) (mCons (mBin addKD (mLst (mCons (mC (.int 0)) (mCons (mC (.int 1)) mNil))) (mBin mulKD (mLst (mCons (mC (.int 0)) mNil)) (mBin subD (mVarF 6) (mC (.int 2))))) (mCons (mVarF 4) (mCons (mVarF 2) mNil)))))) (stD h w n b P Fi ps.length bits R1 (.d (.int z))) = .nx (stD h w n b P Fi ps.length bits R2 (.d (.int z))) := (asg_at (call_at e6 s1)).trans rfl
        refine ⟨R2, ?_, s2, fun c m => small_at (by have := s3 c m; omega) (by have := s3 c m; omega), fun u a g R => ?_⟩
        · refine seq_to e1 (if_to ct e7)
        · rw [if_pos q]
          exact s4 u (a + a) 1 g (r4 u a a g R R) (Rep.shift (Rep.one u n _))
      · rw [decide_eq_false q] at ct
        refine ⟨R1, seq_to e1 (if_n ct), r2, c1, fun u a g R => ?_⟩
        rw [if_neg q, Nat.add_zero]
        exact r4 u a a g R R
    obtain ⟨F1, t1, t2, t3, t4⟩ := step
    obtain ⟨F', x10', e2, e3, e4⟩ := db_loop h w n b P Fi ps pt n0 n1 bits L F1 (.d (.int z)) t2 t3
    refine ⟨F', x10', ?_, e3, fun u a g R => e4 u _ g (t4 u a g R)⟩
    show (match dbB (stD h w n b P Fi ps.length bits F (.d (.int z))) with
      | .nx st2 => loopS (tgName 10) dbB (il L) st2
      | .ct st2 => loopS (tgName 10) dbB (il L) st2
      | .bk st2 => .nx st2
      | o => o) = _
    rw [t1]
    exact e2
abbrev stZ (h w n b : Int) (P Fi U : D) (d : Nat) (bits : D) (F : List Int) (x10 : Sl) : S := ⟨[.d (.int h), .d (.int w), .d (.int n), .d (.int b), .d P, .d Fi, .d (.int d), .d bits, .d (.int 0), .d (.lst (il F)), x10, .d U, .no, .no], [.dead]⟩
theorem lrest_sum (h w n b : Int) (P Fi U : D) (d : Nat) (bits : D) (F us : List Int) (x10 : Sl) (hU : seqW U = some (il us)) (hs : ∀ c ∈ us, smallI c = true) (hl : us.length ≤ 1000) :
    (mFun sumD (mCons (mLc (miFun zip2F (mCons (mVarF 9) (mCons (mVarF 11) mNil))) (tgTup [12, 13]) mYes (mBin mulKD (mVarF 12) (mVarF 13)) [12, 13]) mNil)) (stZ h w n b P Fi U d bits F x10) = .ok (.int (((F.zip us).map fun p => p.1 * p.2).sum)) (stZ h w n b P Fi U d bits F x10) := by
  have q := lc_all (i := fun p : Int × Int => D.tup [.int p.1, .int p.2]) (f := fun p => D.int (p.1 * p.2)) (mi := (miFun zip2F (mCons (mVarF 9) (mCons (mVarF 11) mNil)))) (tg := tgTup [12, 13]) (me := (mBin mulKD (mVarF 12) (mVarF 13))) (vs := [12, 13]) (st := stZ h w n b P Fi U d bits F x10) (F.zip us)
    (mifun_at (ds := [.lst (il F), U]) rfl (by unfold zip2F; simp only [hU]; show some (zipD (il F) (il us)) = _; rw [zipD_il])) (by rw [List.length_zip]; omega) fun p m => by
      refine ⟨[.d (.int h), .d (.int w), .d (.int n), .d (.int b), .d P, .d Fi, .d (.int d), .d bits, .d (.int 0), .d (.lst (il F)), x10, .d U, .d (.int p.1), .d (.int p.2)], rfl, ?_⟩
      exact bin_at (f := mulKD) (a := .int p.1) (b := .int p.2) rfl rfl (mul_small _ _ (hs p.2 (List.of_mem_zip m).2))
  exact fun_at (cons_at q (e := (rfl : mNil _ = _))) (sumD_il _)
/-- what is asked of a rule -/
structure Rule (h b : Int) (ps cs us : List Int) (P Fi U : D) : Prop extends Parts ps P where
  hR2 : Rn m__law_rule_of 2 [.int h] (.kt [.int b, P, Fi])
  hF : seqD Fi = some (il cs)
  hFL : lenD [Fi] = some (.int (cs.length : Nat))
  hU : seqW U = some (il us)
  hus : us = cs.drop (cs.length - ps.length)
  hcut : ∀ (m : M) (lo hi : MO) (st : S), m st = .ok Fi st → lo st = .ok (some (b - ps.length - 1)) st → hi st = .ok (some (b - 1)) st → mSlK m lo hi st = .ok U st
  hb : b = (cs.length : Nat) + 1
  hd : ps.length ≤ cs.length
  hc : cs.length ≤ 50
  hcs : ∀ c ∈ cs, smallI c = true
theorem lrest_far {h b : Int} {ps cs us : List Int} {P Fi U : D} (r : Rule h b ps cs us P Fi U) (w n : Int) (n0 : 1 ≤ n) (n1 : n < 18446744073709551616) (hw : (cs.length : Int) < w) (hw2 : w < 1267650600228229401496703205376) :
    Rn m__law_rest_of 14 [.int h, .int w, .int n] (.int (seqU ps (cs.drop (cs.length - ps.length)).reverse (w - 1 - cs.length + ps.length).toNat % n)) := by
  have h2 := r.h2
  have hp := r.hp
  have hd := r.hd
  have hb := r.hb
  have hc := r.hc
  have hl : us.length = ps.length := by rw [r.hus, List.length_drop]; omega
  obtain ⟨bs, e1, e2, e3⟩ := bw_while h w n b P Fi ps.length 101 1000 (w - 1 - cs.length + ps.length).toNat [] (by
    rw [show (2 : Nat) ^ 101 = 2535301200456458802993406410752 from rfl]
    omega) (by decide) (by decide)
  obtain ⟨F', x10', e4, e5, e6⟩ := db_loop h w n b P Fi ps r.toParts (by omega) n1 (.lst (il bs)) bs.reverse (1 :: List.replicate (ps.length - 1) 0) .no (by simp; omega) (fun c m => by
    rcases List.mem_cons.mp m with rfl | m
    · decide
    · rw [(List.mem_replicate.mp m).2]; decide)
  have hg := e6 (seqU ps us.reverse) 0 (seqU_goes ps _ (by rw [List.length_reverse]; exact hl)) (Rep.one _ n _)
  rw [upV_rev, e2] at hg
  have hz := sum_zip (seqU ps us.reverse) F' 0 us (by omega) fun k hk => by
    have q := seqU_at ps us.reverse 0 k (by rw [List.length_reverse]; omega)
    rw [show ext ps us.reverse 0 = us.reverse from rfl, List.reverse_reverse] at q
    rw [Nat.zero_add]
    exact q
  have hm := (hg 0).eq
  rw [Nat.add_zero, ← hz] at hm
  rw [← r.hus]
  refine rn (st' := stZ h w n b P Fi U ps.length (.lst (il bs)) F' x10') ?_
  unfold m__law_rest_of
  refine seq_to (st1 := ⟨[.d (.int h), .d (.int w), .d (.int n), .d (.int b), .d P, .d Fi, .no, .no, .no, .no, .no, .no, .no, .no], []⟩) (to_at (call_at (as := [.int h]) (st1 := ⟨[.d (.int h), .d (.int w), .d (.int n), .no, .no, .no, .no, .no, .no, .no, .no, .no, .no, .no], []⟩) rfl r.hR2) rfl) ?_
  have c : (mB (mBin leD (mVarF 1) (mFun lenD (mCons (mVarF 5) mNil)))) ⟨[.d (.int h), .d (.int w), .d (.int n), .d (.int b), .d P, .d Fi, .no, .no, .no, .no, .no, .no, .no, .no], []⟩ = .ok false ⟨[.d (.int h), .d (.int w), .d (.int n), .d (.int b), .d P, .d Fi, .no, .no, .no, .no, .no, .no, .no, .no], []⟩ := by
    refine b_at (bin_at (f := leD) (a := .int w) (b := .int (cs.length : Nat)) (st1 := ⟨[.d (.int h), .d (.int w), .d (.int n), .d (.int b), .d P, .d Fi, .no, .no, .no, .no, .no, .no, .no, .no], []⟩) rfl (fun_at (ds := [Fi]) rfl r.hFL) ?_)
    show some (D.bl (decide (w ≤ (cs.length : Nat)))) = _
    rw [decide_eq_false (by omega)]
  refine seq_to (if_n c) ?_
  refine seq_to (st1 := stR h w n b P Fi ps.length (((w - 1 - cs.length + ps.length).toNat : Nat) : Int) .no .no []) ?_ ?_
  · have q1 : (mFun lenD (mCons (mVarF 4) mNil)) ⟨[.d (.int h), .d (.int w), .d (.int n), .d (.int b), .d P, .d Fi, .no, .no, .no, .no, .no, .no, .no, .no], []⟩ = .ok (.int (ps.length : Nat)) ⟨[.d (.int h), .d (.int w), .d (.int n), .d (.int b), .d P, .d Fi, .no, .no, .no, .no, .no, .no, .no, .no], []⟩ := fun_at (ds := [P]) rfl r.hL
    have q2 : (mBin subD (mVarF 1) (mBin subD (mVarF 3) (mFun lenD (mCons (mVarF 4) mNil)))) ⟨[.d (.int h), .d (.int w), .d (.int n), .d (.int b), .d P, .d Fi, .no, .no, .no, .no, .no, .no, .no, .no], [.l []]⟩ = .ok (.int (((w - 1 - cs.length + ps.length).toNat : Nat) : Int)) ⟨[.d (.int h), .d (.int w), .d (.int n), .d (.int b), .d P, .d Fi, .no, .no, .no, .no, .no, .no, .no, .no], [.l []]⟩ := by
      refine bin_at (f := subD) (a := .int w) (b := .int (b - (ps.length : Nat))) rfl (bin_at (f := subD) (a := .int b) (b := .int (ps.length : Nat)) rfl (fun_at (ds := [P]) rfl r.hL) rfl) ?_
      show some (D.int (w - (b - (ps.length : Nat)))) = _
      congr 2
      omega
    unfold mParX
    have q3 : (xDat (mFun lenD (mCons (mVarF 4) mNil)) (xNew (.l []) (xDat (mBin subD (mVarF 1) (mBin subD (mVarF 3) (mFun lenD (mCons (mVarF 4) mNil)))) xNil))) ⟨[.d (.int h), .d (.int w), .d (.int n), .d (.int b), .d P, .d Fi, .no, .no, .no, .no, .no, .no, .no, .no], []⟩ = .ok [.d (.int (ps.length : Nat)), .rf 0, .d (.int (((w - 1 - cs.length + ps.length).toNat : Nat) : Int))] ⟨[.d (.int h), .d (.int w), .d (.int n), .d (.int b), .d P, .d Fi, .no, .no, .no, .no, .no, .no, .no, .no], [.l []]⟩ := by
      unfold xDat
      rw [q1]
      show bindO (bindO (bindO ((mBin subD (mVarF 1) (mBin subD (mVarF 3) (mFun lenD (mCons (mVarF 4) mNil)))) ⟨[.d (.int h), .d (.int w), .d (.int n), .d (.int b), .d P, .d Fi, .no, .no, .no, .no, .no, .no, .no, .no], [.l []]⟩) _) _) _ = _
      rw [q2]
      rfl
    rw [q3]
    rfl
  refine seq_to (st1 := stR h w n b P Fi ps.length 0 .no .no bs) e1 ?_
  have ea : (mBin addKD (mLst (mCons (mC (.int 1)) mNil)) (mBin mulKD (mLst (mCons (mC (.int 0)) mNil)) (mBin subD (mVarF 6) (mC (.int 1))))) (stR h w n b P Fi ps.length 0 .no .no bs) = .ok (.lst (il (1 :: List.replicate (ps.length - 1) 0))) (stR h w n b P Fi ps.length 0 .no .no bs) := by
    have em : (mBin mulKD (mLst (mCons (mC (.int 0)) mNil)) (mBin subD (mVarF 6) (mC (.int 1)))) (stR h w n b P Fi ps.length 0 .no .no bs) = .ok (.lst (il (List.replicate (ps.length - 1) 0))) (stR h w n b P Fi ps.length 0 .no .no bs) := by
      refine bin_at (f := mulKD) (a := .lst [.int 0]) (b := .int ((ps.length : Int) - 1)) rfl rfl ?_
      show (if 0 ≤ ((ps.length : Int) - 1) ∧ ((ps.length : Int) - 1) ≤ 1000 ∧ [D.int 0].length ≤ 100 then some (D.lst (List.replicate ((ps.length : Int) - 1).toNat [D.int 0]).flatten) else none) = _
      rw [if_pos ⟨by omega, by omega, by decide⟩, show ((ps.length : Int) - 1).toNat = ps.length - 1 by omega]
      simp [il]
    refine bin_at (f := addKD) (a := .lst [.int 1]) (b := .lst (il (List.replicate (ps.length - 1) 0))) (st1 := stR h w n b P Fi ps.length 0 .no .no bs) rfl em ?_
    show (if 1 + (il (List.replicate (ps.length - 1) 0)).length ≤ lim then some (D.lst ([.int 1] ++ il (List.replicate (ps.length - 1) 0))) else none) = _
    rw [if_pos (by rw [List.length_map, List.length_replicate]; show _ ≤ 100000; omega)]
    rfl
  refine seq_to (st1 := stR h w n b P Fi ps.length 0 (.d (.lst (il (1 :: List.replicate (ps.length - 1) 0)))) .no bs) ((asg_at ea).trans rfl) ?_
  refine seq_to (st1 := stD h w n b P Fi ps.length (.lst (il bs)) F' x10') ?_ ?_
  · have ei : (miSeq (mStep (mVarF 7) mPN mPN (mPS (mNeg (mC (.int 1)))))) (stR h w n b P Fi ps.length 0 (.d (.lst (il (1 :: List.replicate (ps.length - 1) 0)))) .no bs) = .ok (il bs.reverse) (stD h w n b P Fi ps.length (.lst (il bs)) (1 :: List.replicate (ps.length - 1) 0) .no) := by
      show bindO (if (some (-1 : Int)) = some 0 then O.no else O.ok (D.lst (stepIx (il bs) none none (some (-1)))) _) _ = _
      rw [if_neg (by decide), rev_all]
      rfl
    unfold mFor
    rw [ei]
    exact e4
  refine seq_to (st1 := stZ h w n b P Fi U ps.length (.lst (il bs)) F' x10') ((asg_at (d := U) (st1 := stD h w n b P Fi ps.length (.lst (il bs)) F' x10') (r.hcut _ _ _ _ rfl rfl rfl)).trans rfl) ?_
  have hsu : ∀ c ∈ us, smallI c = true := fun c m => r.hcs c (by rw [r.hus] at m; exact List.mem_of_mem_drop m)
  refine ret_at (bin_at (f := modD) (b := .int n) (fun_at (f := intD) (cons_at (lrest_sum h w n b P Fi U ps.length (.lst (il bs)) F' us x10' r.hU hsu (by omega)) (e := (rfl : mNil _ = _))) rfl) rfl ?_)
  rw [mod_at _ n (by omega), hm]
theorem lrest_near {h b : Int} {ps cs us : List Int} {P Fi U : D} (r : Rule h b ps cs us P Fi U) (w n c0 : Int) (n0 : 1 ≤ n) (w1 : 1 ≤ w) (hw : w ≤ (cs.length : Int)) (hc : cs[(w - 1).toNat]? = some c0) :
    Rn m__law_rest_of 14 [.int h, .int w, .int n] (.int (c0 % n)) := by
  refine rn (st' := ⟨[.d (.int h), .d (.int w), .d (.int n), .d (.int b), .d P, .d Fi, .no, .no, .no, .no, .no, .no, .no, .no], []⟩) ?_
  unfold m__law_rest_of
  refine seq_to (st1 := ⟨[.d (.int h), .d (.int w), .d (.int n), .d (.int b), .d P, .d Fi, .no, .no, .no, .no, .no, .no, .no, .no], []⟩) (to_at (call_at (as := [.int h]) (st1 := ⟨[.d (.int h), .d (.int w), .d (.int n), .no, .no, .no, .no, .no, .no, .no, .no, .no, .no, .no], []⟩) rfl r.hR2) rfl) ?_
  have c : (mB (mBin leD (mVarF 1) (mFun lenD (mCons (mVarF 5) mNil)))) ⟨[.d (.int h), .d (.int w), .d (.int n), .d (.int b), .d P, .d Fi, .no, .no, .no, .no, .no, .no, .no, .no], []⟩ = .ok true ⟨[.d (.int h), .d (.int w), .d (.int n), .d (.int b), .d P, .d Fi, .no, .no, .no, .no, .no, .no, .no, .no], []⟩ := by
    refine b_at (bin_at (f := leD) (a := .int w) (b := .int (cs.length : Nat)) (st1 := ⟨[.d (.int h), .d (.int w), .d (.int n), .d (.int b), .d P, .d Fi, .no, .no, .no, .no, .no, .no, .no, .no], []⟩) rfl (fun_at (ds := [Fi]) rfl r.hFL) ?_)
    show some (D.bl (decide (w ≤ (cs.length : Nat)))) = _
    rw [decide_eq_true hw]
  have er : (mIf (mB (mBin leD (mVarF 1) (mFun lenD (mCons (mVarF 5) mNil)))) (mRet (mBin modD (mFun intD (mCons (mBin ixD (mVarF 5) (mBin subD (mVarF 1) (mC (.int 1)))) mNil)) (mVarF 2))) mSkip) ⟨[.d (.int h), .d (.int w), .d (.int n), .d (.int b), .d P, .d Fi, .no, .no, .no, .no, .no, .no, .no, .no], []⟩ = .rt (.int (c0 % n)) ⟨[.d (.int h), .d (.int w), .d (.int n), .d (.int b), .d P, .d Fi, .no, .no, .no, .no, .no, .no, .no, .no], []⟩ :=
    if_to c (ret_at (bin_at (f := modD) (a := .int c0) (b := .int n) (fun_at (f := intD) (cons_at (bin_at (f := ixD) (a := Fi) (b := .int (w - 1)) (st1 := ⟨[.d (.int h), .d (.int w), .d (.int n), .d (.int b), .d P, .d Fi, .no, .no, .no, .no, .no, .no, .no, .no], []⟩) (st2 := ⟨[.d (.int h), .d (.int w), .d (.int n), .d (.int b), .d P, .d Fi, .no, .no, .no, .no, .no, .no, .no, .no], []⟩) rfl rfl (ix_at (i := D.int) (R := cs) r.hF (n := (w - 1).toNat) (by omega) hc)) (e := (rfl : mNil _ = _))) rfl) rfl (mod_at c0 n (by omega))))
  unfold mSeq
  rw [er]
  rfl
theorem mand_t {m n : M} {st st1 : S} {o : O D} (h : m st = .ok (.bl true) st1) (k : n st1 = o) : mAnd m n st = o := by
  unfold mAnd
  rw [h]
  exact k
theorem same_int (n : Nat) (i : Int) : Rn (m__law_same (n + 1)) 4 [.int i, .int i] (.bl true) := by
  refine rn (st' := ⟨[.d (.int i), .d (.int i), .no, .no], []⟩) ?_
  unfold m__law_same
  have q : mAnd (mIsa .int (mVarF 0)) (mAnd (mNot (mIsa .bool (mVarF 0))) (mBin eqD (mVarF 0) (mVarF 1))) ⟨[.d (.int i), .d (.int i), .no, .no], []⟩ = .ok (.bl true) ⟨[.d (.int i), .d (.int i), .no, .no], []⟩ := by
    show mBin eqD (mVarF 0) (mVarF 1) ⟨[.d (.int i), .d (.int i), .no, .no], []⟩ = _
    exact bin_at (a := .int i) (b := .int i) rfl rfl (by rw [eqI_at, decide_eq_true rfl])
  exact seq_to (st1 := ⟨[.d (.int i), .d (.int i), .no, .no], []⟩) rfl (seq_to (st1 := ⟨[.d (.int i), .d (.int i), .no, .no], []⟩) rfl (ret_at q))
theorem zip_fs : ∀ ps : List (D × D), zipD (ps.map (·.1)) (ps.map (·.2)) = ps.map fun p => D.tup [p.1, p.2]
  | [] => rfl
  | p :: ps => by
    show D.tup [p.1, p.2] :: zipD (ps.map (·.1)) (ps.map (·.2)) = _
    rw [zip_fs ps]
    rfl
theorem same_l (n : Nat) (ps : List (D × D)) (hl : ps.length ≤ 1000) (h : ∀ p ∈ ps, Rn (m__law_same n) 4 [p.1, p.2] (.bl true)) : Rn (m__law_same (n + 1)) 4 [.lst (ps.map (·.1)), .lst (ps.map (·.2))] (.bl true) := by
  refine rn (st' := ⟨[.d (.lst (ps.map (·.1))), .d (.lst (ps.map (·.2))), .no, .no], []⟩) ?_
  unfold m__law_same
  have q := lc_all (i := fun p : D × D => D.tup [p.1, p.2]) (f := fun _ => D.bl true) (mi := (miFun zip2F (mCons (mVarF 0) (mCons (mVarF 1) mNil)))) (tg := tgTup [2, 3]) (me := (mCall (m__law_same n) 4 [] (mCons (mVarF 2) (mCons (mVarF 3) mNil)))) (vs := [2, 3]) (st := ⟨[.d (.lst (ps.map (·.1))), .d (.lst (ps.map (·.2))), .no, .no], []⟩) ps
    (by show optO (some (zipD (ps.map (·.1)) (ps.map (·.2)))) _ = _; rw [zip_fs]; rfl) (by omega) fun x m => ⟨[.d (.lst (ps.map (·.1))), .d (.lst (ps.map (·.2))), .d x.1, .d x.2], rfl, call_at (as := [x.1, x.2]) rfl (h x m)⟩
  rw [map_true] at q
  have z : mAnd (mBin eqD (mFun lenD (mCons (mVarF 0) mNil)) (mFun lenD (mCons (mVarF 1) mNil))) (mFun allD (mCons (mLc (miFun zip2F (mCons (mVarF 0) (mCons (mVarF 1) mNil))) (tgTup [2, 3]) mYes (mCall (m__law_same n) 4 [] (mCons (mVarF 2) (mCons (mVarF 3) mNil))) [2, 3]) mNil)) ⟨[.d (.lst (ps.map (·.1))), .d (.lst (ps.map (·.2))), .no, .no], []⟩ = .ok (.bl true) ⟨[.d (.lst (ps.map (·.1))), .d (.lst (ps.map (·.2))), .no, .no], []⟩ := by
    refine mand_t (bin_at (f := eqD) (a := .int (ps.length : Nat)) (b := .int (ps.length : Nat)) (st1 := ⟨[.d (.lst (ps.map (·.1))), .d (.lst (ps.map (·.2))), .no, .no], []⟩) (st2 := ⟨[.d (.lst (ps.map (·.1))), .d (.lst (ps.map (·.2))), .no, .no], []⟩) (fun_at (ds := [.lst (ps.map (·.1))]) rfl ?_) (fun_at (ds := [.lst (ps.map (·.2))]) rfl ?_) ?_) (fun_at (cons_at q (e := (rfl : mNil _ = _))) all_true)
    · show some (D.int ((ps.map (·.1)).length : Nat)) = _
      rw [List.length_map]
    · show some (D.int ((ps.map (·.2)).length : Nat)) = _
      rw [List.length_map]
    · rw [eqI_at, decide_eq_true rfl]
  exact seq_rt (if_to (st1 := ⟨[.d (.lst (ps.map (·.1))), .d (.lst (ps.map (·.2))), .no, .no], []⟩) rfl (seq_to (st1 := ⟨[.d (.lst (ps.map (·.1))), .d (.lst (ps.map (·.2))), .no, .no], []⟩) rfl (ret_at z)))
theorem bits_le (far k : Nat) (h : far < 2 ^ k) (h1 : 1 ≤ k) : Builtin.Int.intBits (far : Int) ≤ k := by
  unfold Builtin.Int.intBits
  by_cases z : far = 0
  · subst z
    exact Nat.zero_le _
  · have e : ((far : Int) == 0) = false := by simp [z]
    rw [e]
    show (far : Int).natAbs.log2 + 1 ≤ k
    rw [Int.natAbs_natCast]
    have := (Nat.log2_lt z).mpr h
    omega
/-- a height, whole -/
structure Full (h b : Int) (ps cs us : List Int) (P Fi U : D) : Prop extends Rule h b ps cs us P Fi U where
  hPc : ixD cPa (.int (h - 1)) = some (.kt (il ps))
  hCc : ixD cFi (.int (h - 1)) = some (.kt (il cs))
  h0 : 1 ≤ h
  h5 : h ≤ 5
  hcr : Rn m_corridor_rule 1 [.int h] (.tup [.int b, .kt (il ps)])
  hsm : Rn (m__law_same 7) 4 [.tup [.int b, .kt (il ps)], .tup [.int b, P]] (.bl true)
  hsm8 : Rn (m__law_same 8) 4 [.tup [.int b, .kt (il ps)], .tup [.int b, P]] (.bl true)
theorem Full.counts {h b : Int} {ps cs us : List Int} {P Fi U : D} (r : Full h b ps cs us P Fi U) (w : Int) (w1 : 1 ≤ w) (w2 : w ≤ 2000) : ∃ v, Rn m_corridor_count 7 [.int h, .int w] (.int v) ∧ Rn m__law_counted_on 9 [.int h, .int w] (.int v) ∧ ∀ n : Int, 1 ≤ n → n < 18446744073709551616 → Rn m_corridor_rest 9 [.int h, .int w, .int n] (.int (v % n)) := by
  have h2 := r.h2
  have hp := r.hp
  have hd := r.hd
  have hc := r.hc
  have hlen : (w - 1).toNat < (ext ps cs.reverse (w - cs.length).toNat).reverse.length := by
    rw [List.length_reverse, ext_len, List.length_reverse]
    omega
  obtain ⟨v, hv⟩ : ∃ v, (ext ps cs.reverse (w - cs.length).toNat).reverse[(w - 1).toNat]? = some v := ⟨_, List.getElem?_eq_getElem hlen⟩
  refine ⟨v, count_rn h w ps cs v r.hPc r.hCc r.h0 r.h5 w1 w2 r.hs (by omega) hp hd hc hv, counted_rn h w b P Fi ps cs v r.hR2 r.hF r.hP (by omega) r.hs hd (by omega) w1 (by omega) hv, fun n n0 n1 => ?_⟩
  by_cases z : w ≤ (cs.length : Int)
  · rw [member_near ps cs w w1 z] at hv
    exact rest_near h w n ps cs v r.hPc r.hCc r.h0 r.h5 n0 w1 z hv
  · rw [member_at ps cs w hd w1 (by omega)] at hv
    cases Option.some.inj hv
    have hb : (w - 1 - cs.length + ps.length).toNat < 2 ^ 20 := by
      rw [show (2 : Nat) ^ 20 = 1048576 from rfl]
      omega
    exact rest_far h w n ps cs r.hPc r.hCc r.h0 r.h5 n0 n1 r.hs r.hcs h2 hp hd hc (by omega) (by have := bits_le _ 20 hb (by decide); omega)
theorem Full.rests {h b : Int} {ps cs us : List Int} {P Fi U : D} (r : Full h b ps cs us P Fi U) (w n : Int) (w1 : 1 ≤ w) (w2 : w < 1267650600228229401496703205376) (n0 : 1 ≤ n) (n1 : n < 18446744073709551616) : ∃ v, Rn m_corridor_rest 9 [.int h, .int w, .int n] (.int v) ∧ Rn m__law_rest_of 14 [.int h, .int w, .int n] (.int v) := by
  have h2 := r.h2
  have hp := r.hp
  have hd := r.hd
  have hc := r.hc
  by_cases z : w ≤ (cs.length : Int)
  · obtain ⟨v, hv⟩ : ∃ v, cs[(w - 1).toNat]? = some v := ⟨_, List.getElem?_eq_getElem (by omega)⟩
    exact ⟨_, rest_near h w n ps cs v r.hPc r.hCc r.h0 r.h5 n0 w1 z hv, lrest_near r.toRule w n v n0 w1 z hv⟩
  · have hb : (w - 1 - cs.length + ps.length).toNat < 2 ^ 101 := by
      rw [show (2 : Nat) ^ 101 = 2535301200456458802993406410752 from rfl]
      omega
    refine ⟨_, rest_far h w n ps cs r.hPc r.hCc r.h0 r.h5 n0 n1 r.hs r.hcs h2 hp hd hc (by omega) (by have := bits_le _ 101 hb (by decide); omega), lrest_far r.toRule w n n0 n1 (by omega) w2⟩
theorem full_1 : Full 1 3 [1, 1] [1, 2] [1, 2] (.tup (il [1, 1])) (.tup (il [1, 2])) (.tup (il [1, 2])) where
  hP := rfl
  hL := rfl
  hs := by decide
  h2 := by decide
  hp := by decide
  hR := rfl
  hR2 := rule_1
  hF := rfl
  hFL := rfl
  hU := rfl
  hus := rfl
  hcut := fun m lo hi st e1 e2 e3 => by unfold mSlK; rw [e1]; show bindO (lo st) _ = _; rw [e2]; show bindO (hi st) _ = _; rw [e3]; rfl
  hb := rfl
  hd := by decide
  hc := by decide
  hcs := by decide
  hPc := rfl
  hCc := rfl
  h0 := by decide
  h5 := by decide
  hcr := crule_1
  hsm := rn' rfl
  hsm8 := rn' rfl
theorem cut_kt {m : M} {lo hi : MO} {st : S} {ds : List D} {l u : Option Int} {U : D} (e1 : m st = .ok (.kt ds) st) (e2 : lo st = .ok l st) (e3 : hi st = .ok u st) (e : (if wholeB ds.length l u = true then D.kt ds else D.kt (cutD ds l u)) = U) : mSlK m lo hi st = .ok U st := by
  unfold mSlK
  rw [e1]
  show bindO (lo st) _ = _
  rw [e2]
  show bindO (hi st) _ = _
  rw [e3, ← e]
  rfl
theorem crule_2 : Rn m_corridor_rule 1 [.int 2] (.tup [.int 5, .kt (il [2, 0, 2, -1])]) := rn' rfl
theorem crule_3 : Rn m_corridor_rule 1 [.int 3] (.tup [.int 9, .kt (il [1, 2, 0, 2, -1, -1])]) := rn' rfl
theorem crule_4 : Rn m_corridor_rule 1 [.int 4] (.tup [.int 15, .kt (il [1, 1, 1, -1, 7, -7, 1, -1, -1, -1, 1])]) := rn' rfl
theorem full_2 : Full 2 5 [2, 0, 2, -1] [2, 6, 13, 29] [2, 6, 13, 29] (.kt (il [2, 0, 2, -1])) (.kt (il [2, 6, 13, 29])) (.kt (il [2, 6, 13, 29])) where
  hP := rfl
  hL := rfl
  hs := by decide
  h2 := by decide
  hp := by decide
  hR := rfl
  hR2 := rule_2
  hF := rfl
  hFL := rfl
  hU := rfl
  hus := rfl
  hcut := fun m lo hi st e1 e2 e3 => cut_kt e1 e2 e3 rfl
  hb := rfl
  hd := by decide
  hc := by decide
  hcs := by decide
  hPc := rfl
  hCc := rfl
  h0 := by decide
  h5 := by decide
  hcr := crule_2
  hsm := rn' rfl
  hsm8 := rn' rfl
theorem full_3 : Full 3 9 [1, 2, 0, 2, -1, -1] [3, 13, 22, 44, 90, 196, 406, 852] [22, 44, 90, 196, 406, 852] (.kt (il [1, 2, 0, 2, -1, -1])) (.kt (il [3, 13, 22, 44, 90, 196, 406, 852])) (.kt (il [22, 44, 90, 196, 406, 852])) where
  hP := rfl
  hL := rfl
  hs := by decide
  h2 := by decide
  hp := by decide
  hR := rfl
  hR2 := rule_3
  hF := rfl
  hFL := rfl
  hU := rfl
  hus := rfl
  hcut := fun m lo hi st e1 e2 e3 => cut_kt e1 e2 e3 rfl
  hb := rfl
  hd := by decide
  hc := by decide
  hcs := by decide
  hPc := rfl
  hCc := rfl
  h0 := by decide
  h5 := by decide
  hcr := crule_3
  hsm := rn' rfl
  hsm8 := rn' rfl
theorem full_4 : Full 4 15 [1, 1, 1, -1, 7, -7, 1, -1, -1, -1, 1] [5, 29, 44, 66, 126, 238, 490, 922, 1714, 3306, 6246, 12102, 22994, 43682] [66, 126, 238, 490, 922, 1714, 3306, 6246, 12102, 22994, 43682] (.kt (il [1, 1, 1, -1, 7, -7, 1, -1, -1, -1, 1])) (.kt (il [5, 29, 44, 66, 126, 238, 490, 922, 1714, 3306, 6246, 12102, 22994, 43682])) (.kt (il [66, 126, 238, 490, 922, 1714, 3306, 6246, 12102, 22994, 43682])) where
  hP := rfl
  hL := rfl
  hs := by decide
  h2 := by decide
  hp := by decide
  hR := rfl
  hR2 := rule_4
  hF := rfl
  hFL := rfl
  hU := rfl
  hus := rfl
  hcut := fun m lo hi st e1 e2 e3 => cut_kt e1 e2 e3 rfl
  hb := rfl
  hd := by decide
  hc := by decide
  hcs := by decide
  hPc := rfl
  hCc := rfl
  h0 := by decide
  h5 := by decide
  hcr := crule_4
  hsm := rn' rfl
  hsm8 := rn' rfl
theorem full_5 : Full 5 19 [1, 1, -1, 3, -1, 5, -2, -5, -1, -3, -1, -1, 1, 1] [8, 68, 90, 126, 178, 325, 584, 1165, 2030, 3619, 6080, 10987, 19362, 35477, 62360, 111837, 195614, 350707] [178, 325, 584, 1165, 2030, 3619, 6080, 10987, 19362, 35477, 62360, 111837, 195614, 350707] (.kt (il [1, 1, -1, 3, -1, 5, -2, -5, -1, -3, -1, -1, 1, 1])) (.kt (il [8, 68, 90, 126, 178, 325, 584, 1165, 2030, 3619, 6080, 10987, 19362, 35477, 62360, 111837, 195614, 350707])) (.kt (il [178, 325, 584, 1165, 2030, 3619, 6080, 10987, 19362, 35477, 62360, 111837, 195614, 350707])) where
  hP := rfl
  hL := rfl
  hs := by decide
  h2 := by decide
  hp := by decide
  hR := rfl
  hR2 := rule_5
  hF := rfl
  hFL := rfl
  hU := rfl
  hus := rfl
  hcut := fun m lo hi st e1 e2 e3 => cut_kt e1 e2 e3 rfl
  hb := rfl
  hd := by decide
  hc := by decide
  hcs := by decide
  hPc := rfl
  hCc := rfl
  h0 := by decide
  h5 := by decide
  hcr := crule_5
  hsm := rn' rfl
  hsm8 := rn' rfl
theorem drawW {n a b t : Int} {m : M} {st st1 : S} (hm : m st = .ok (.int n) st1) (n0 : 0 < n) (n1 : n < 18446744073709551616) (h0 : st.sl[0]? = some (.rf 0)) (hc : st1.ce[0]? = some (tinC a b t)) (t0 : 0 ≤ t) (t1 : t + 1 < 1000000) :
    ∃ v a' t', 0 ≤ v ∧ v < n ∧ 0 ≤ t' ∧ t' ≤ t + 1 ∧ mCallR m__law_take 6 [] (rRef 0 (rDat m rNil)) st = .ok (.int v) (st1.setC 0 (tinC a' b t')) := by
  obtain ⟨d, a', t', ⟨v, rfl, v0, v1⟩, q1, q2, e⟩ := callR_at (st := st) (st1 := st1) (k := 0) (takeW_rnR n n0 n1) (ref_at (i := 0) (r := rDat m rNil) (as := [.int n]) h0 (rdat_at (as := []) hm rfl)) hc t0 t1
  exact ⟨v, a', t', v0, v1, q1, q2, e⟩
theorem full_of (v : Int) (v0 : 0 ≤ v) (v1 : v < 4) : ∃ b ps cs us P Fi U, Full (1 + v) b ps cs us P Fi U := by
  have : v = 0 ∨ v = 1 ∨ v = 2 ∨ v = 3 := by omega
  rcases this with rfl | rfl | rfl | rfl
  · exact ⟨_, _, _, _, _, _, _, full_1⟩
  · exact ⟨_, _, _, _, _, _, _, full_2⟩
  · exact ⟨_, _, _, _, _, _, _, full_3⟩
  · exact ⟨_, _, _, _, _, _, _, full_4⟩
/-- the near widths, SQUARE by SQUARE -/
def nearB (h w : Int) : Bool := match rtD (m__law_boxed (S.start [.d (.int h), .d (.int w)] 5 [])) with
  | some R => match rtD (m__law_many (S.start [.d R, .d (.kt [])] 2 [])), rtD (m_corridor_count (S.start [.d (.int h), .d (.int w)] 7 [])) with
    | some (.int x), some (.int y) => decide (x = y)
    | _, _ => false
  | none => false
theorem nearB_rn {h w : Int} (e : nearB h w = true) : ∃ R c, Rn m__law_boxed 5 [.int h, .int w] R ∧ Rn m__law_many 2 [R, .kt []] (.int c) ∧ Rn m_corridor_count 7 [.int h, .int w] (.int c) := by
  unfold nearB at e
  split at e
  · rename_i R h1
    split at e
    · rename_i x y h2 h3
      have : x = y := of_decide_eq_true e
      subst this
      exact ⟨R, x, rn' h1, rn' h2, rn' h3⟩
    · cases e
  · cases e
theorem nr_1_1 : nearB 1 1 = true := by decide +kernel
theorem nr_1_2 : nearB 1 2 = true := by decide +kernel
theorem nr_1_3 : nearB 1 3 = true := by decide +kernel
theorem nr_1_4 : nearB 1 4 = true := by decide +kernel
theorem nr_1_5 : nearB 1 5 = true := by decide +kernel
theorem nr_1_6 : nearB 1 6 = true := by decide +kernel
theorem nr_1_7 : nearB 1 7 = true := by decide +kernel
theorem nr_1_8 : nearB 1 8 = true := by decide +kernel
theorem nr_1_9 : nearB 1 9 = true := by decide +kernel
theorem nr_1_10 : nearB 1 10 = true := by decide +kernel
theorem nr_1_11 : nearB 1 11 = true := by decide +kernel
theorem nr_1_12 : nearB 1 12 = true := by decide +kernel
theorem near_1 : ([1, 2, 3, 4, 5, 6, 7, 8, 9, 10, 11, 12] : List Int).all (nearB 1) = true := by
  simp only [List.all_cons, List.all_nil, nr_1_1, nr_1_2, nr_1_3, nr_1_4, nr_1_5, nr_1_6, nr_1_7, nr_1_8, nr_1_9, nr_1_10, nr_1_11, nr_1_12, Bool.and_self]
theorem nr_2_1 : nearB 2 1 = true := by decide +kernel
theorem nr_2_2 : nearB 2 2 = true := by decide +kernel
theorem nr_2_3 : nearB 2 3 = true := by decide +kernel
theorem nr_2_4 : nearB 2 4 = true := by decide +kernel
theorem nr_2_5 : nearB 2 5 = true := by decide +kernel
theorem nr_2_6 : nearB 2 6 = true := by decide +kernel
theorem nr_2_7 : nearB 2 7 = true := by decide +kernel
theorem nr_2_8 : nearB 2 8 = true := by decide +kernel
theorem nr_2_9 : nearB 2 9 = true := by decide +kernel
theorem near_2 : ([1, 2, 3, 4, 5, 6, 7, 8, 9] : List Int).all (nearB 2) = true := by
  simp only [List.all_cons, List.all_nil, nr_2_1, nr_2_2, nr_2_3, nr_2_4, nr_2_5, nr_2_6, nr_2_7, nr_2_8, nr_2_9, Bool.and_self]
theorem nr_3_1 : nearB 3 1 = true := by decide +kernel
theorem nr_3_2 : nearB 3 2 = true := by decide +kernel
theorem nr_3_3 : nearB 3 3 = true := by decide +kernel
theorem nr_3_4 : nearB 3 4 = true := by decide +kernel
theorem nr_3_5 : nearB 3 5 = true := by decide +kernel
theorem nr_3_6 : nearB 3 6 = true := by decide +kernel
theorem near_3 : ([1, 2, 3, 4, 5, 6] : List Int).all (nearB 3) = true := by
  simp only [List.all_cons, List.all_nil, nr_3_1, nr_3_2, nr_3_3, nr_3_4, nr_3_5, nr_3_6, Bool.and_self]
theorem nr_4_1 : nearB 4 1 = true := by decide +kernel
theorem nr_4_2 : nearB 4 2 = true := by decide +kernel
theorem nr_4_3 : nearB 4 3 = true := by decide +kernel
theorem near_4 : ([1, 2, 3] : List Int).all (nearB 4) = true := by
  simp only [List.all_cons, List.all_nil, nr_4_1, nr_4_2, nr_4_3, Bool.and_self]
theorem near_of (v k : Int) (v0 : 0 ≤ v) (v1 : v < 4) (k0 : 0 ≤ k) (k1 : k < ([12, 9, 6, 3] : List Int).getD v.toNat 0) : nearB (1 + v) (1 + k) = true := by
  have : v = 0 ∨ v = 1 ∨ v = 2 ∨ v = 3 := by omega
  rcases this with rfl | rfl | rfl | rfl
  · have k1 : k < 12 := k1
    exact List.all_eq_true.mp near_1 (1 + k) (by simp only [List.mem_cons, List.not_mem_nil, or_false]; omega)
  · have k1 : k < 9 := k1
    exact List.all_eq_true.mp near_2 (1 + k) (by simp only [List.mem_cons, List.not_mem_nil, or_false]; omega)
  · have k1 : k < 6 := k1
    exact List.all_eq_true.mp near_3 (1 + k) (by simp only [List.mem_cons, List.not_mem_nil, or_false]; omega)
  · have k1 : k < 3 := k1
    exact List.all_eq_true.mp near_4 (1 + k) (by simp only [List.mem_cons, List.not_mem_nil, or_false]; omega)
theorem pick3 (v : Int) (v0 : 0 ≤ v) (v1 : v < 3) (x y z : Int) (st : S) (m : M) (hm : m st = .ok (.int v) st1) (hx : 1 ≤ x ∧ x ≤ 1000000) (hy : 1 ≤ y ∧ y ≤ 1000000) (hz : 1 ≤ z ∧ z ≤ 1000000) (l : M) (hl : l st = .ok (.kt [.int x, .int y, .int z]) st) : ∃ n, 1 ≤ n ∧ n ≤ max x (max y z) ∧ mBin ixD l m st = .ok (.int n) st1 := by
  have : v = 0 ∨ v = 1 ∨ v = 2 := by omega
  rcases this with rfl | rfl | rfl
  · exact ⟨x, hx.1, by omega, bin_at (f := ixD) hl hm rfl⟩
  · exact ⟨y, hy.1, by omega, bin_at (f := ixD) hl hm rfl⟩
  · exact ⟨z, hz.1, by omega, bin_at (f := ixD) hl hm rfl⟩
theorem setF_lst {i : Nat} {ms : MA} {st st1 st2 : S} {ds : List D} (h : ms st = .ok ds st1) (hl : ds.length ≤ 1000) (e : st1.addC i (.l ds) = st2) : mSetF i (fLst ms) st = .nx st2 := by
  unfold mSetF fLst
  rw [h]
  show bindS (if ds.length ≤ 1000 then O.ok ds st1 else .no) _ = _
  rw [if_pos hl, ← e]
  rfl
theorem app_to {i k : Nat} {m : M} {st st1 st2 : S} {d : D} {ds : List D} (h1 : st.cellOf i = some k) (h2 : st.isL k = true) (h3 : m st = .ok d st1) (h4 : st1.ce[k]? = some (.l ds)) (h5 : ds.length ≤ lim) (e : st1.setC k (.l (ds ++ [d])) = st2) : mDrop (mApp i m) st = .nx st2 := by
  rw [← e]
  exact drop_at (app_at h1 h2 h3 h4 h5)
abbrev stX (h : Int) (rule : D) (w : Int) (x4 x5 x6 x7 x8 : Sl) (a b t : Int) (ce : List Ce) : S := ⟨[.rf 0, .d (.int h), .d rule, .d (.int w), x4, x5, x6, x7, x8], tinC a b t :: ce⟩
theorem right_rnR : RnR m__law_right 9 [] 9 fun d => d = .bl true := fun a b t t0 t1 => by
  -- high
  obtain ⟨v, a1, t1', v0, v1, p1, p2, e1⟩ := drawW (m := mC (.int 4)) (st := ⟨[.rf 0, .no, .no, .no, .no, .no, .no, .no, .no], [tinC a b t]⟩) rfl (by decide) (by decide) rfl rfl t0 (by omega)
  obtain ⟨bb, ps, cs, us, P, Fi, U, r⟩ := full_of v v0 v1
  have s1 : (mAsg 1 (mBin addKD (mC (.int 1)) (mCallR m__law_take 6 [] (rRef 0 (rDat (mC (.int 4)) rNil))))) ⟨[.rf 0, .no, .no, .no, .no, .no, .no, .no, .no], [tinC a b t]⟩ = .nx ⟨[.rf 0, .d (.int (1 + v)), .no, .no, .no, .no, .no, .no, .no], [tinC a1 b t1']⟩ :=
    (asg_at (bin_at (f := addKD) (a := .int 1) (b := .int v) rfl e1 rfl)).trans rfl
  have hv : (1 : Int) + v = 1 + v := rfl
  generalize hh : (1 : Int) + v = h at r s1
  have s2 : (mAsg 2 (mCall m__law_rule_of 2 [] (mCons (mVarF 1) mNil))) ⟨[.rf 0, .d (.int h), .no, .no, .no, .no, .no, .no, .no], [tinC a1 b t1']⟩ = .nx ⟨[.rf 0, .d (.int h), .d (.kt [.int bb, P, Fi]), .no, .no, .no, .no, .no, .no], [tinC a1 b t1']⟩ :=
    (asg_at (call_at (as := [.int h]) (st1 := ⟨[.rf 0, .d (.int h), .no, .no, .no, .no, .no, .no, .no], [tinC a1 b t1']⟩) rfl r.hR2)).trans rfl
  -- wide
  obtain ⟨u, a2, t2', u0, u1, p3, p4, e2⟩ := drawW (m := mC (.int 3)) (st := ⟨[.rf 0, .d (.int h), .d (.kt [.int bb, P, Fi]), .no, .no, .no, .no, .no, .no], [tinC a1 b t1']⟩) rfl (by decide) (by decide) rfl rfl p1 (by omega)
  obtain ⟨n3, m0, m1, e3⟩ := pick3 u u0 u1 30 90 200 (st := ⟨[.rf 0, .d (.int h), .d (.kt [.int bb, P, Fi]), .no, .no, .no, .no, .no, .no], [tinC a1 b t1']⟩) _ e2 (by decide) (by decide) (by decide) (mTupK (mCons (mC (.int 30)) (mCons (mC (.int 90)) (mCons (mC (.int 200)) mNil)))) rfl
  obtain ⟨y, a3, t3', y0, y1, p5, p6, e4⟩ := drawW e3 (by omega) (by omega) rfl rfl p3 (by omega)
  have s3 : (mAsg 3 (mBin addKD (mC (.int 1)) (mCallR m__law_take 6 [] (rRef 0 (rDat (mBin ixD (mTupK (mCons (mC (.int 30)) (mCons (mC (.int 90)) (mCons (mC (.int 200)) mNil)))) (mCallR m__law_take 6 [] (rRef 0 (rDat (mC (.int 3)) rNil)))) rNil))))) ⟨[.rf 0, .d (.int h), .d (.kt [.int bb, P, Fi]), .no, .no, .no, .no, .no, .no], [tinC a1 b t1']⟩ = .nx (stX h (.kt [.int bb, P, Fi]) (1 + y) .no .no .no .no .no a3 b t3' []) :=
    (asg_at (bin_at (f := addKD) (a := .int 1) (b := .int y) rfl e4 rfl)).trans rfl
  have m1 : n3 ≤ 200 := m1
  have w1 : 1 ≤ 1 + y := by omega
  have w2 : 1 + y ≤ 200 := by omega
  generalize hw : 1 + y = w at s3 w1 w2
  obtain ⟨c, k1, k2, k3⟩ := r.counts w w1 (by omega)
  have s4 : (mSetF 4 (fLst (mCons (mCall m_corridor_rule 1 [] (mCons (mVarF 1) mNil)) (mCons (mCall m_corridor_count 7 [] (mCons (mVarF 1) (mCons (mVarF 3) mNil))) mNil)))) (stX h (.kt [.int bb, P, Fi]) w .no .no .no .no .no a3 b t3' []) = .nx (stX h (.kt [.int bb, P, Fi]) w (.rf 1) .no .no .no .no a3 b t3' [.l [.tup [.int bb, .kt (il ps)], .int c]]) := by
    refine setF_lst (cons_at (call_at (as := [.int h]) (st1 := stX h (.kt [.int bb, P, Fi]) w .no .no .no .no .no a3 b t3' []) rfl r.hcr) (cons_at (call_at (as := [.int h, .int w]) (st1 := stX h (.kt [.int bb, P, Fi]) w .no .no .no .no .no a3 b t3' []) rfl k1) (e := (rfl : mNil _ = _)))) (show 2 ≤ 1000 by decide) rfl
  have s5 : (mSetF 5 (fLst (mCons (mTup (mCons (mBin ixD (mVarF 2) (mC (.int 0))) (mCons (mBin ixD (mVarF 2) (mC (.int 1))) mNil))) (mCons (mCall m__law_counted_on 9 [] (mCons (mVarF 1) (mCons (mVarF 3) mNil))) mNil)))) (stX h (.kt [.int bb, P, Fi]) w (.rf 1) .no .no .no .no a3 b t3' [.l [.tup [.int bb, .kt (il ps)], .int c]]) = .nx (stX h (.kt [.int bb, P, Fi]) w (.rf 1) (.rf 2) .no .no .no a3 b t3' [.l [.tup [.int bb, .kt (il ps)], .int c], .l [.tup [.int bb, P], .int c]]) := by
    refine setF_lst (cons_at (d := .tup [.int bb, P]) (st1 := stX h (.kt [.int bb, P, Fi]) w (.rf 1) .no .no .no .no a3 b t3' [.l [.tup [.int bb, .kt (il ps)], .int c]]) rfl (cons_at (call_at (as := [.int h, .int w]) (st1 := stX h (.kt [.int bb, P, Fi]) w (.rf 1) .no .no .no .no a3 b t3' [.l [.tup [.int bb, .kt (il ps)], .int c]]) rfl k2) (e := (rfl : mNil _ = _)))) (show 2 ≤ 1000 by decide) rfl
  -- number
  obtain ⟨u', a4, t4', u0', u1', p7, p8, e5⟩ := drawW (m := mC (.int 3)) (st := (stX h (.kt [.int bb, P, Fi]) w (.rf 1) (.rf 2) .no .no .no a3 b t3' [.l [.tup [.int bb, .kt (il ps)], .int c], .l [.tup [.int bb, P], .int c]])) rfl (by decide) (by decide) rfl rfl p5 (by omega)
  obtain ⟨n6, m2, m3, e6⟩ := pick3 u' u0' u1' 12 1000 1000000 (st := (stX h (.kt [.int bb, P, Fi]) w (.rf 1) (.rf 2) .no .no .no a3 b t3' [.l [.tup [.int bb, .kt (il ps)], .int c], .l [.tup [.int bb, P], .int c]])) _ e5 (by decide) (by decide) (by decide) (mTupK (mCons (mC (.int 12)) (mCons (mC (.int 1000)) (mCons (mBin powD (mC (.int 10)) (mC (.int 6))) mNil)))) rfl
  have m3 : n6 ≤ 1000000 := m3
  obtain ⟨z, a5, t5', z0, z1, p9, p10, e7⟩ := drawW e6 (by omega) (by omega) rfl rfl p7 (by omega)
  have s6 : (mAsg 6 (mBin addKD (mC (.int 1)) (mCallR m__law_take 6 [] (rRef 0 (rDat (mBin ixD (mTupK (mCons (mC (.int 12)) (mCons (mC (.int 1000)) (mCons (mBin powD (mC (.int 10)) (mC (.int 6))) mNil)))) (mCallR m__law_take 6 [] (rRef 0 (rDat (mC (.int 3)) rNil)))) rNil))))) (stX h (.kt [.int bb, P, Fi]) w (.rf 1) (.rf 2) .no .no .no a3 b t3' [.l [.tup [.int bb, .kt (il ps)], .int c], .l [.tup [.int bb, P], .int c]]) = .nx (stX h (.kt [.int bb, P, Fi]) w (.rf 1) (.rf 2) (.d (.int (1 + z))) .no .no a5 b t5' [.l [.tup [.int bb, .kt (il ps)], .int c], .l [.tup [.int bb, P], .int c]]) :=
    (asg_at (bin_at (f := addKD) (a := .int 1) (b := .int z) rfl e7 rfl)).trans rfl
  have n0 : 1 ≤ 1 + z := by omega
  have n1 : 1 + z < 18446744073709551616 := by omega
  generalize hn : 1 + z = n at s6 n0 n1
  have s7 : (mDrop (mApp 4 (mCall m_corridor_rest 9 [] (mCons (mVarF 1) (mCons (mVarF 3) (mCons (mVarF 6) mNil)))))) (stX h (.kt [.int bb, P, Fi]) w (.rf 1) (.rf 2) (.d (.int n)) .no .no a5 b t5' [.l [.tup [.int bb, .kt (il ps)], .int c], .l [.tup [.int bb, P], .int c]]) = .nx (stX h (.kt [.int bb, P, Fi]) w (.rf 1) (.rf 2) (.d (.int n)) .no .no a5 b t5' [.l [.tup [.int bb, .kt (il ps)], .int c, .int (c % n)], .l [.tup [.int bb, P], .int c]]) :=
    app_to (k := 1) (ds := [.tup [.int bb, .kt (il ps)], .int c]) rfl rfl (call_at (as := [.int h, .int w, .int n]) (st1 := (stX h (.kt [.int bb, P, Fi]) w (.rf 1) (.rf 2) (.d (.int n)) .no .no a5 b t5' [.l [.tup [.int bb, .kt (il ps)], .int c], .l [.tup [.int bb, P], .int c]])) rfl (k3 n n0 n1)) rfl (Nat.le_of_ble_eq_true rfl) rfl
  have s8 : (mDrop (mApp 5 (mBin modD (mFun intD (mCons (mIxC 5 (mC (.int 1))) mNil)) (mVarF 6)))) (stX h (.kt [.int bb, P, Fi]) w (.rf 1) (.rf 2) (.d (.int n)) .no .no a5 b t5' [.l [.tup [.int bb, .kt (il ps)], .int c, .int (c % n)], .l [.tup [.int bb, P], .int c]]) = .nx (stX h (.kt [.int bb, P, Fi]) w (.rf 1) (.rf 2) (.d (.int n)) .no .no a5 b t5' [.l [.tup [.int bb, .kt (il ps)], .int c, .int (c % n)], .l [.tup [.int bb, P], .int c, .int (c % n)]]) :=
    app_to (k := 2) (ds := [.tup [.int bb, P], .int c]) rfl rfl (bin_at (f := modD) (a := .int c) (b := .int n) (st1 := (stX h (.kt [.int bb, P, Fi]) w (.rf 1) (.rf 2) (.d (.int n)) .no .no a5 b t5' [.l [.tup [.int bb, .kt (il ps)], .int c, .int (c % n)], .l [.tup [.int bb, P], .int c]])) (st2 := (stX h (.kt [.int bb, P, Fi]) w (.rf 1) (.rf 2) (.d (.int n)) .no .no a5 b t5' [.l [.tup [.int bb, .kt (il ps)], .int c, .int (c % n)], .l [.tup [.int bb, P], .int c]])) rfl rfl (mod_at c n (by omega))) rfl (Nat.le_of_ble_eq_true rfl) rfl
  -- far
  have s9 : ∃ f a6 t6', 1 ≤ f ∧ f < 1267650600228229401496703205376 ∧ 0 ≤ t6' ∧ t6' ≤ t5' + 2 ∧ (mAsg 7 (mIfE (mB (mBin ltD (mVarF 1) (mC (.int 4)))) (mBin addKD (mC (.int 1)) (mBin mulKD (mCallR m__law_take 6 [] (rRef 0 (rDat (mBin powD (mC (.int 10)) (mC (.int 15))) rNil))) (mCallR m__law_take 6 [] (rRef 0 (rDat (mBin powD (mC (.int 10)) (mC (.int 15))) rNil))))) (mBin addKD (mC (.int 1)) (mCallR m__law_take 6 [] (rRef 0 (rDat (mBin powD (mC (.int 10)) (mC (.int 7))) rNil)))))) (stX h (.kt [.int bb, P, Fi]) w (.rf 1) (.rf 2) (.d (.int n)) .no .no a5 b t5' [.l [.tup [.int bb, .kt (il ps)], .int c, .int (c % n)], .l [.tup [.int bb, P], .int c, .int (c % n)]]) = .nx (stX h (.kt [.int bb, P, Fi]) w (.rf 1) (.rf 2) (.d (.int n)) (.d (.int f)) .no a6 b t6' [.l [.tup [.int bb, .kt (il ps)], .int c, .int (c % n)], .l [.tup [.int bb, P], .int c, .int (c % n)]]) := by
    have ct : (mB (mBin ltD (mVarF 1) (mC (.int 4)))) (stX h (.kt [.int bb, P, Fi]) w (.rf 1) (.rf 2) (.d (.int n)) .no .no a5 b t5' [.l [.tup [.int bb, .kt (il ps)], .int c, .int (c % n)], .l [.tup [.int bb, P], .int c, .int (c % n)]]) = .ok (decide (h < 4)) (stX h (.kt [.int bb, P, Fi]) w (.rf 1) (.rf 2) (.d (.int n)) .no .no a5 b t5' [.l [.tup [.int bb, .kt (il ps)], .int c, .int (c % n)], .l [.tup [.int bb, P], .int c, .int (c % n)]]) := b_at (bin_at (f := ltD) (a := .int h) (b := .int 4) rfl rfl rfl)
    by_cases q : h < 4
    · rw [decide_eq_true q] at ct
      obtain ⟨f1, a6, t6', f10, f11, p11, p12, g1⟩ := drawW (n := 1000000000000000) (m := (mBin powD (mC (.int 10)) (mC (.int 15)))) (st := (stX h (.kt [.int bb, P, Fi]) w (.rf 1) (.rf 2) (.d (.int n)) .no .no a5 b t5' [.l [.tup [.int bb, .kt (il ps)], .int c, .int (c % n)], .l [.tup [.int bb, P], .int c, .int (c % n)]])) rfl (by decide) (by decide) rfl rfl p9 (by omega)
      obtain ⟨f2, a7, t7', f20, f21, p13, p14, g2⟩ := drawW (n := 1000000000000000) (m := (mBin powD (mC (.int 10)) (mC (.int 15)))) (st := (stX h (.kt [.int bb, P, Fi]) w (.rf 1) (.rf 2) (.d (.int n)) .no .no a6 b t6' [.l [.tup [.int bb, .kt (il ps)], .int c, .int (c % n)], .l [.tup [.int bb, P], .int c, .int (c % n)]])) rfl (by decide) (by decide) rfl rfl p11 (by omega)
      have hm : f1 * f2 < 1267650600228229401496703205375 := by
        have h1 : f1 * f2 ≤ f1 * 1000000000000000 := Int.mul_le_mul_of_nonneg_left (by omega) f10
        omega
      have hm0 : 0 ≤ f1 * f2 := Int.mul_nonneg f10 f20
      refine ⟨1 + f1 * f2, a7, t7', by omega, by omega, p13, by omega, (asg_at (ife_t ct (bin_at (f := addKD) (a := .int 1) (b := .int (f1 * f2)) rfl (bin_at (f := mulKD) (a := .int f1) (b := .int f2) g1 g2 (mulS_at f1 f2 (small_at (by omega) (by omega)))) rfl))).trans rfl⟩
    · rw [decide_eq_false q] at ct
      obtain ⟨f1, a6, t6', f10, f11, p11, p12, g1⟩ := drawW (n := 10000000) (m := (mBin powD (mC (.int 10)) (mC (.int 7)))) (st := (stX h (.kt [.int bb, P, Fi]) w (.rf 1) (.rf 2) (.d (.int n)) .no .no a5 b t5' [.l [.tup [.int bb, .kt (il ps)], .int c, .int (c % n)], .l [.tup [.int bb, P], .int c, .int (c % n)]])) rfl (by decide) (by decide) rfl rfl p9 (by omega)
      exact ⟨1 + f1, a6, t6', by omega, by omega, p11, by omega, (asg_at (ife_f ct (bin_at (f := addKD) (a := .int 1) (b := .int f1) rfl g1 rfl))).trans rfl⟩
  obtain ⟨f, a6, t6', f0, f1, p11, p12, s9⟩ := s9
  obtain ⟨z2, k4, k5⟩ := r.rests f n f0 f1 n0 n1
  have s10 : (mDrop (mApp 4 (mCall m_corridor_rest 9 [] (mCons (mVarF 1) (mCons (mVarF 7) (mCons (mVarF 6) mNil)))))) (stX h (.kt [.int bb, P, Fi]) w (.rf 1) (.rf 2) (.d (.int n)) (.d (.int f)) .no a6 b t6' [.l [.tup [.int bb, .kt (il ps)], .int c, .int (c % n)], .l [.tup [.int bb, P], .int c, .int (c % n)]]) = .nx (stX h (.kt [.int bb, P, Fi]) w (.rf 1) (.rf 2) (.d (.int n)) (.d (.int f)) .no a6 b t6' [.l [.tup [.int bb, .kt (il ps)], .int c, .int (c % n), .int z2], .l [.tup [.int bb, P], .int c, .int (c % n)]]) :=
    app_to (k := 1) (ds := [.tup [.int bb, .kt (il ps)], .int c, .int (c % n)]) rfl rfl (call_at (as := [.int h, .int f, .int n]) (st1 := (stX h (.kt [.int bb, P, Fi]) w (.rf 1) (.rf 2) (.d (.int n)) (.d (.int f)) .no a6 b t6' [.l [.tup [.int bb, .kt (il ps)], .int c, .int (c % n)], .l [.tup [.int bb, P], .int c, .int (c % n)]])) rfl k4) rfl (Nat.le_of_ble_eq_true rfl) rfl
  have s11 : (mDrop (mApp 5 (mCall m__law_rest_of 14 [] (mCons (mVarF 1) (mCons (mVarF 7) (mCons (mVarF 6) mNil)))))) (stX h (.kt [.int bb, P, Fi]) w (.rf 1) (.rf 2) (.d (.int n)) (.d (.int f)) .no a6 b t6' [.l [.tup [.int bb, .kt (il ps)], .int c, .int (c % n), .int z2], .l [.tup [.int bb, P], .int c, .int (c % n)]]) = .nx (stX h (.kt [.int bb, P, Fi]) w (.rf 1) (.rf 2) (.d (.int n)) (.d (.int f)) .no a6 b t6' [.l [.tup [.int bb, .kt (il ps)], .int c, .int (c % n), .int z2], .l [.tup [.int bb, P], .int c, .int (c % n), .int z2]]) :=
    app_to (k := 2) (ds := [.tup [.int bb, P], .int c, .int (c % n)]) rfl rfl (call_at (as := [.int h, .int f, .int n]) (st1 := (stX h (.kt [.int bb, P, Fi]) w (.rf 1) (.rf 2) (.d (.int n)) (.d (.int f)) .no a6 b t6' [.l [.tup [.int bb, .kt (il ps)], .int c, .int (c % n), .int z2], .l [.tup [.int bb, P], .int c, .int (c % n)]])) rfl k5) rfl (Nat.le_of_ble_eq_true rfl) rfl
  have hs := same_l 7 [(.tup [.int bb, .kt (il ps)], .tup [.int bb, P]), (.int c, .int c), (.int (c % n), .int (c % n)), (.int z2, .int z2)] (show 4 ≤ 1000 by decide) (fun p m => by
    simp only [List.mem_cons, List.not_mem_nil, or_false] at m
    rcases m with rfl | rfl | rfl | rfl
    · exact r.hsm
    · exact same_int 6 c
    · exact same_int 6 (c % n)
    · exact same_int 6 z2)
  have s12 : (mIf (mNotT (mTru (mCall (m__law_same 8) 4 [] (mCons (mVarF 4) (mCons (mVarF 5) mNil))))) (mRet (mC (.bl false))) mSkip) (stX h (.kt [.int bb, P, Fi]) w (.rf 1) (.rf 2) (.d (.int n)) (.d (.int f)) .no a6 b t6' [.l [.tup [.int bb, .kt (il ps)], .int c, .int (c % n), .int z2], .l [.tup [.int bb, P], .int c, .int (c % n), .int z2]]) = .nx (stX h (.kt [.int bb, P, Fi]) w (.d (.lst [.tup [.int bb, .kt (il ps)], .int c, .int (c % n), .int z2])) (.d (.lst [.tup [.int bb, P], .int c, .int (c % n), .int z2])) (.d (.int n)) (.d (.int f)) .no a6 b t6' [.dead, .dead]) :=
    if_n (not_at (b := true) (tru_at (d := .bl true) (call_at (as := [.lst [.tup [.int bb, .kt (il ps)], .int c, .int (c % n), .int z2], .lst [.tup [.int bb, P], .int c, .int (c % n), .int z2]]) rfl hs) rfl))
  -- near
  have e8 : (mBin ixD (mTupK (mCons (mC (.int 12)) (mCons (mC (.int 9)) (mCons (mC (.int 6)) (mCons (mC (.int 3)) mNil))))) (mBin subD (mVarF 1) (mC (.int 1)))) (stX h (.kt [.int bb, P, Fi]) w (.d (.lst [.tup [.int bb, .kt (il ps)], .int c, .int (c % n), .int z2])) (.d (.lst [.tup [.int bb, P], .int c, .int (c % n), .int z2])) (.d (.int n)) (.d (.int f)) .no a6 b t6' [.dead, .dead]) = .ok (.int (([12, 9, 6, 3] : List Int).getD v.toNat 0)) (stX h (.kt [.int bb, P, Fi]) w (.d (.lst [.tup [.int bb, .kt (il ps)], .int c, .int (c % n), .int z2])) (.d (.lst [.tup [.int bb, P], .int c, .int (c % n), .int z2])) (.d (.int n)) (.d (.int f)) .no a6 b t6' [.dead, .dead]) := by
    refine bin_at (f := ixD) (a := .kt [.int 12, .int 9, .int 6, .int 3]) (b := .int (h - 1)) (st1 := (stX h (.kt [.int bb, P, Fi]) w (.d (.lst [.tup [.int bb, .kt (il ps)], .int c, .int (c % n), .int z2])) (.d (.lst [.tup [.int bb, P], .int c, .int (c % n), .int z2])) (.d (.int n)) (.d (.int f)) .no a6 b t6' [.dead, .dead])) rfl rfl ?_
    have : v = 0 ∨ v = 1 ∨ v = 2 ∨ v = 3 := by omega
    rcases this with rfl | rfl | rfl | rfl <;> subst hh <;> rfl
  have g0 : 0 < ([12, 9, 6, 3] : List Int).getD v.toNat 0 ∧ ([12, 9, 6, 3] : List Int).getD v.toNat 0 ≤ 12 := by
    have : v = 0 ∨ v = 1 ∨ v = 2 ∨ v = 3 := by omega
    rcases this with rfl | rfl | rfl | rfl <;> decide
  obtain ⟨k, a7, t7', k0, k1', p13, p14, e9⟩ := drawW e8 g0.1 (by omega) rfl rfl p11 (by omega)
  have s13 : (mAsg 8 (mBin addKD (mC (.int 1)) (mCallR m__law_take 6 [] (rRef 0 (rDat (mBin ixD (mTupK (mCons (mC (.int 12)) (mCons (mC (.int 9)) (mCons (mC (.int 6)) (mCons (mC (.int 3)) mNil))))) (mBin subD (mVarF 1) (mC (.int 1)))) rNil))))) (stX h (.kt [.int bb, P, Fi]) w (.d (.lst [.tup [.int bb, .kt (il ps)], .int c, .int (c % n), .int z2])) (.d (.lst [.tup [.int bb, P], .int c, .int (c % n), .int z2])) (.d (.int n)) (.d (.int f)) .no a6 b t6' [.dead, .dead]) = .nx (stX h (.kt [.int bb, P, Fi]) w (.d (.lst [.tup [.int bb, .kt (il ps)], .int c, .int (c % n), .int z2])) (.d (.lst [.tup [.int bb, P], .int c, .int (c % n), .int z2])) (.d (.int n)) (.d (.int f)) (.d (.int (1 + k))) a7 b t7' [.dead, .dead]) :=
    (asg_at (bin_at (f := addKD) (a := .int 1) (b := .int k) rfl e9 rfl)).trans rfl
  have nb := near_of v k v0 v1 k0 k1'
  rw [hh] at nb
  obtain ⟨R, x, j1, j2, j3⟩ := nearB_rn nb
  refine ⟨.bl true, a7, t7', (stX h (.kt [.int bb, P, Fi]) w (.d (.lst [.tup [.int bb, .kt (il ps)], .int c, .int (c % n), .int z2])) (.d (.lst [.tup [.int bb, P], .int c, .int (c % n), .int z2])) (.d (.int n)) (.d (.int f)) (.d (.int (1 + k))) a7 b t7' [.dead, .dead]), rfl, p13, by omega, ?_, rfl⟩
  unfold m__law_right
  refine seq_to s1 (seq_to s2 (seq_to s3 (seq_to s4 (seq_to s5 (seq_to s6 (seq_to s7 (seq_to s8 (seq_to s9 (seq_to s10 (seq_to s11 (seq_to s12 (seq_to s13 (ret_at (call_at (as := [.int x, .int x]) (cons_at (call_at (as := [.int h, .int (1 + k)]) rfl j3) (cons_at (call_at (as := [R, .kt []]) (cons_at (call_at (as := [.int h, .int (1 + k)]) rfl j1) (cons_at (d := .kt []) rfl (e := (rfl : mNil _ = _)))) j2) (e := (rfl : mNil _ = _)))) (same_int 7 x)))))))))))))))
def intIs (o : Option D) (v : Int) : Bool := match o with
  | some (.int x) => decide (x = v)
  | _ => false
theorem intIs_rn {ms : MS} {n : Nat} {as : List D} {v : Int} (e : intIs (rtD (ms (S.start (as.map .d) n []))) v = true) : Rn ms n as (.int v) := by
  unfold intIs at e
  split at e
  · rename_i x h
    obtain rfl : x = v := of_decide_eq_true e
    exact rn' h
  · cases e
theorem far_1 : Rn m_corridor_rest 9 [.int 1, .int 1000000000000000000000000000000, .int 1000] (.int 501) := by
  have hb : Builtin.Int.intBits ((999999999999999999999999999999 : Nat) : Int) < 1000000 := by have := bits_le 999999999999999999999999999999 101 (by rw [show (2 : Nat) ^ 101 = 2535301200456458802993406410752 from rfl]; omega) (by decide); omega
  have e := rest_far 1 1000000000000000000000000000000 1000 [1, 1] [1, 2] rfl rfl (by decide) (by decide) (by decide) (by decide) (by decide) (by decide) (by decide) (by decide) (by decide) (by decide) (by decide) hb
  have z : seqU [1, 1] [2, 1] 999999999999999999999999999999 % 1000 = 501 := by
    refine (seq_pow [1, 1] [1, 2] 1000 999999999999999999999999999999 (by decide) (by decide) (by decide) (by decide) (by decide) rfl hb).trans ?_
    decide +kernel
  rw [← z]
  exact e
theorem far_2 : Rn m_corridor_rest 9 [.int 2, .int 1000000000000000000000000000000, .int 1000] (.int 537) := by
  have hb : Builtin.Int.intBits ((999999999999999999999999999999 : Nat) : Int) < 1000000 := by have := bits_le 999999999999999999999999999999 101 (by rw [show (2 : Nat) ^ 101 = 2535301200456458802993406410752 from rfl]; omega) (by decide); omega
  have e := rest_far 2 1000000000000000000000000000000 1000 [2, 0, 2, -1] [2, 6, 13, 29] rfl rfl (by decide) (by decide) (by decide) (by decide) (by decide) (by decide) (by decide) (by decide) (by decide) (by decide) (by decide) hb
  have z : seqU [2, 0, 2, -1] [29, 13, 6, 2] 999999999999999999999999999999 % 1000 = 537 := by
    refine (seq_pow [2, 0, 2, -1] [2, 6, 13, 29] 1000 999999999999999999999999999999 (by decide) (by decide) (by decide) (by decide) (by decide) rfl hb).trans ?_
    decide +kernel
  rw [← z]
  exact e
theorem far_3 : Rn m_corridor_rest 9 [.int 3, .int 1000000000000000000000000000000, .int 1000] (.int 100) := by
  have hb : Builtin.Int.intBits ((999999999999999999999999999997 : Nat) : Int) < 1000000 := by have := bits_le 999999999999999999999999999997 101 (by rw [show (2 : Nat) ^ 101 = 2535301200456458802993406410752 from rfl]; omega) (by decide); omega
  have e := rest_far 3 1000000000000000000000000000000 1000 [1, 2, 0, 2, -1, -1] [3, 13, 22, 44, 90, 196, 406, 852] rfl rfl (by decide) (by decide) (by decide) (by decide) (by decide) (by decide) (by decide) (by decide) (by decide) (by decide) (by decide) hb
  have z : seqU [1, 2, 0, 2, -1, -1] [852, 406, 196, 90, 44, 22] 999999999999999999999999999997 % 1000 = 100 := by
    refine (seq_pow [1, 2, 0, 2, -1, -1] [22, 44, 90, 196, 406, 852] 1000 999999999999999999999999999997 (by decide) (by decide) (by decide) (by decide) (by decide) rfl hb).trans ?_
    decide +kernel
  rw [← z]
  exact e
theorem far_4 : Rn m_corridor_rest 9 [.int 4, .int 30, .int 1000000] (.int 975774) := intIs_rn (by decide +kernel)
theorem cnt_4 : Rn m_corridor_count 7 [.int 4, .int 30] (.int 1357975774) := intIs_rn (by decide +kernel)
theorem cnt_5 : Rn m_corridor_count 7 [.int 5, .int 10] (.int 3619) := intIs_rn (by decide +kernel)
theorem far_5 : Rn m_corridor_rest 9 [.int 2, .int 7, .int 1] (.int 0) := intIs_rn (by decide +kernel)
theorem far_6 : Rn m_corridor_rest 9 [.int 3, .int 1, .int 2] (.int 1) := intIs_rn (by decide +kernel)
theorem callK_at {ms : MS} {n : Nat} {pm : List Nat} {ds as : List D} {d : D} {ma : MA} {st st1 : S} (h : ma st = .ok ds st1) (e : reo pm ds = as) (r : Rn ms n as d) : mCallK ms n pm ma st = .ok d st1 := by
  unfold mCallK
  rw [h]
  show runD ms n (reo pm ds) st1 = _
  rw [e]
  exact r st1
def blIs (o : Option D) : Bool := match o with
  | some (.bl true) => true
  | _ => false
theorem blIs_rn {ms : MS} {n : Nat} {as : List D} (e : blIs (rtD (ms (S.start (as.map .d) n []))) = true) : Rn ms n as (.bl true) := by
  unfold blIs at e
  split at e
  · rename_i h
    exact rn' h
  · cases e
abbrev cr1 : D := .tup [.int 3, .kt (il [1, 1])]
abbrev cr2 : D := .tup [.int 5, .kt (il [2, 0, 2, -1])]
abbrev cr3 : D := .tup [.int 9, .kt (il [1, 2, 0, 2, -1, -1])]
abbrev hG : List D := [cr1, cr2, cr3, .lst [.int 501, .int 537, .int 100], .int 975774, .int 1357975774, .int 0, .int 1, cr1, .int 501, .int 3619]
abbrev hD : List D := [.tup [.int 3, .tup [.int 1, .int 1]], cr2, cr3, .lst [.int 501, .int 537, .int 100], .int 975774, .int 1357975774, .int 0, .int 1, .tup [.int 3, .tup [.int 1, .int 1]], .int 501, .int 3619]
theorem hand_same : Rn (m__law_same 8) 4 [.lst hG, .lst hD] (.bl true) := blIs_rn (by decide +kernel)
abbrev stH (x0 x1 : Sl) : S := ⟨[x0, x1, .no], []⟩
abbrev rl (k : Int) : D := if k = 1 then cr1 else if k = 2 then cr2 else cr3
abbrev rs (k : Int) : D := .int (if k = 1 then 501 else if k = 2 then 537 else 100)
theorem hand_rn : Rn m__law_by_hand_right 3 [] (.bl true) := by
  have l1 : (mLc (miSeq (mTupK (mCons (mC (.int 1)) (mCons (mC (.int 2)) (mCons (mC (.int 3)) mNil))))) (tgName 2) mYes (mCall m_corridor_rule 1 [] (mCons (mVarF 2) mNil)) [2]) (stH .no .no) = .ok (.lst [cr1, cr2, cr3]) (stH .no .no) := by
    refine lc_all (i := D.int) (f := rl) [1, 2, 3] rfl (by decide) fun k m => ⟨[.no, .no, .d (.int k)], rfl, ?_⟩
    simp only [List.mem_cons, List.not_mem_nil, or_false] at m
    rcases m with rfl | rfl | rfl
    · exact call_at (as := [.int 1]) rfl crule_1
    · exact call_at (as := [.int 2]) rfl crule_2
    · exact call_at (as := [.int 3]) rfl crule_3
  have l2 : (mLc (miSeq (mTupK (mCons (mC (.int 1)) (mCons (mC (.int 2)) (mCons (mC (.int 3)) mNil))))) (tgName 2) mYes (mCall m_corridor_rest 9 [] (mCons (mVarF 2) (mCons (mBin powD (mC (.int 10)) (mC (.int 30))) (mCons (mC (.int 1000)) mNil)))) [2]) (stH .no .no) = .ok (.lst [.int 501, .int 537, .int 100]) (stH .no .no) := by
    refine lc_all (i := D.int) (f := rs) [1, 2, 3] rfl (by decide) fun k m => ⟨[.no, .no, .d (.int k)], rfl, ?_⟩
    simp only [List.mem_cons, List.not_mem_nil, or_false] at m
    rcases m with rfl | rfl | rfl
    · exact call_at (as := [.int 1, .int 1000000000000000000000000000000, .int 1000]) rfl far_1
    · exact call_at (as := [.int 2, .int 1000000000000000000000000000000, .int 1000]) rfl far_2
    · exact call_at (as := [.int 3, .int 1000000000000000000000000000000, .int 1000]) rfl far_3
  refine rn (st' := stH (.d (.lst hG)) (.d (.lst (hD.take 8)))) ?_
  unfold m__law_by_hand_right
  refine seq_to (st1 := stH (.d (.lst (hG.take 4))) .no) ((asg_at (bin_at (f := addKD) (a := .lst [cr1, cr2, cr3]) (b := .lst [.lst [.int 501, .int 537, .int 100]]) (d := .lst (hG.take 4)) l1 (mlst_at (cons_at l2 (e := (rfl : mNil _ = _))) (by decide)) rfl)).trans rfl) ?_
  refine seq_to (st1 := stH (.d (.lst (hG.take 4))) (.d (.lst (hD.take 4)))) rfl ?_
  have g1 : (mLst (mCons (mCall m_corridor_rest 9 [] (mCons (mC (.int 4)) (mCons (mC (.int 30)) (mCons (mBin powD (mC (.int 10)) (mC (.int 6))) mNil)))) (mCons (mCall m_corridor_count 7 [] (mCons (mC (.int 4)) (mCons (mC (.int 30)) mNil))) (mCons (mCall m_corridor_rest 9 [] (mCons (mC (.int 2)) (mCons (mC (.int 7)) (mCons (mC (.int 1)) mNil)))) (mCons (mCall m_corridor_rest 9 [] (mCons (mC (.int 3)) (mCons (mC (.int 1)) (mCons (mC (.int 2)) mNil)))) mNil))))) (stH (.d (.lst (hG.take 4))) (.d (.lst (hD.take 4)))) = .ok (.lst [.int 975774, .int 1357975774, .int 0, .int 1]) (stH (.d (.lst (hG.take 4))) (.d (.lst (hD.take 4)))) :=
    mlst_at (cons_at (call_at (as := [.int 4, .int 30, .int 1000000]) rfl far_4) (cons_at (call_at (as := [.int 4, .int 30]) rfl cnt_4) (cons_at (call_at (as := [.int 2, .int 7, .int 1]) rfl far_5) (cons_at (call_at (as := [.int 3, .int 1, .int 2]) rfl far_6) (e := (rfl : mNil _ = _)))))) (by decide)
  refine seq_to (st1 := stH (.d (.lst (hG.take 8))) (.d (.lst (hD.take 4)))) ((asg_at (bin_at (f := addKD) (a := .lst (hG.take 4)) (b := .lst [.int 975774, .int 1357975774, .int 0, .int 1]) (d := .lst (hG.take 8)) rfl g1 rfl)).trans rfl) ?_
  refine seq_to (st1 := stH (.d (.lst (hG.take 8))) (.d (.lst (hD.take 8)))) rfl ?_
  have g2 : (mLst (mCons (mCallK m_corridor_rule 1 [0] (mCons (mC (.int 1)) mNil)) (mCons (mCallK m_corridor_rest 9 [2, 1, 0] (mCons (mC (.int 1000)) (mCons (mBin powD (mC (.int 10)) (mC (.int 30))) (mCons (mC (.int 1)) mNil)))) mNil))) (stH (.d (.lst (hG.take 8))) (.d (.lst (hD.take 8)))) = .ok (.lst [cr1, .int 501]) (stH (.d (.lst (hG.take 8))) (.d (.lst (hD.take 8)))) :=
    mlst_at (cons_at (callK_at (ds := [.int 1]) (as := [.int 1]) rfl rfl crule_1) (cons_at (callK_at (ds := [.int 1000, .int 1000000000000000000000000000000, .int 1]) (as := [.int 1, .int 1000000000000000000000000000000, .int 1000]) rfl rfl far_1) (e := (rfl : mNil _ = _)))) (by decide)
  refine seq_to (st1 := stH (.d (.lst (hG.take 10))) (.d (.lst (hD.take 8)))) ((asg_at (bin_at (f := addKD) (a := .lst (hG.take 8)) (b := .lst [cr1, .int 501]) (d := .lst (hG.take 10)) rfl g2 rfl)).trans rfl) ?_
  have g3 : (mLst (mCons (mCallK m_corridor_count 7 [1, 0] (mCons (mC (.int 10)) (mCons (mC (.int 5)) mNil))) mNil)) (stH (.d (.lst (hG.take 10))) (.d (.lst (hD.take 8)))) = .ok (.lst [.int 3619]) (stH (.d (.lst (hG.take 10))) (.d (.lst (hD.take 8)))) :=
    mlst_at (cons_at (callK_at (ds := [.int 10, .int 5]) (as := [.int 5, .int 10]) rfl rfl cnt_5) (e := (rfl : mNil _ = _))) (by decide)
  refine seq_to (st1 := stH (.d (.lst hG)) (.d (.lst (hD.take 8)))) ((asg_at (bin_at (f := addKD) (a := .lst (hG.take 10)) (b := .lst [.int 3619]) (d := .lst hG) rfl g3 rfl)).trans rfl) ?_
  exact ret_at (call_at (as := [.lst hG, .lst hD]) rfl hand_same)
theorem true_of_rn {ms : MS} {n : Nat} (h : Rn ms n [] (.bl true)) : trueS (ms (S.start [] n [])) = true := by
  have h := h (S.start [] 0 [])
  unfold runD at h
  unfold trueS
  rw [show S.start (([] : List D).map .d) n [] = S.start [] n [] from rfl] at h
  cases e : ms (S.start [] n []) with
  | rt d st' =>
    rw [e] at h
    cases h
    rfl
  | _ => rw [e] at h; cases h
theorem hand_true : trueS (m__law_by_hand_right (S.start [] 3 [])) = true := true_of_rn hand_rn
abbrev r5P : D := .kt (il [1, 1, -1, 3, -1, 5, -2, -5, -1, -3, -1, -1, 1, 1])
abbrev r5F : D := .kt (il [8, 68, 90, 126, 178, 325, 584, 1165, 2030, 3619, 6080, 10987, 19362, 35477, 62360, 111837, 195614, 350707])
abbrev r5 : D := .kt [.int 19, r5P, r5F]
theorem five_rnR : RnR m__law_five_right 5 [] 3 fun d => d = .bl true := fun a b t t0 t1 => by
  have c0 : (mCall m__law_rule_of 2 [] (mCons (mC (.int 5)) mNil)) ⟨[.rf 0, .no, .no, .no, .no], [tinC a b t]⟩ = .ok r5 ⟨[.rf 0, .no, .no, .no, .no], [tinC a b t]⟩ := call_at (as := [.int 5]) rfl rule_5
  obtain ⟨v, a1, t1', v0, v1, p1, p2, e1⟩ := drawW (m := mC (.int 30)) (st := ⟨[.rf 0, .no, .no, .no, .no], [tinC a b t]⟩) rfl (by decide) (by decide) rfl rfl t0 (by omega)
  have s1 : (mPar [1, 2] (mCons (mCall m__law_rule_of 2 [] (mCons (mC (.int 5)) mNil)) (mCons (mBin addKD (mC (.int 19)) (mCallR m__law_take 6 [] (rRef 0 (rDat (mC (.int 30)) rNil)))) mNil))) ⟨[.rf 0, .no, .no, .no, .no], [tinC a b t]⟩ = .nx ⟨[.rf 0, .d r5, .d (.int (19 + v)), .no, .no], [tinC a1 b t1']⟩ :=
    par_at (cons_at c0 (cons_at (bin_at (f := addKD) (a := .int 19) (b := .int v) rfl e1 rfl) (e := (rfl : mNil _ = _)))) rfl
  have w1 : 1 ≤ 19 + v := by omega
  have w2 : 19 + v ≤ 2000 := by omega
  generalize hw : 19 + v = w at s1 w1 w2
  obtain ⟨u, a2, t2', u0, u1, p3, p4, e2⟩ := drawW (m := mC (.int 3)) (st := ⟨[.rf 0, .d r5, .d (.int w), .no, .no], [tinC a1 b t1']⟩) rfl (by decide) (by decide) rfl rfl p1 (by omega)
  have s2 : (mAsg 3 (mCallR m__law_take 6 [] (rRef 0 (rDat (mC (.int 3)) rNil)))) ⟨[.rf 0, .d r5, .d (.int w), .no, .no], [tinC a1 b t1']⟩ = .nx ⟨[.rf 0, .d r5, .d (.int w), .d (.int u), .no], [tinC a2 b t2']⟩ := (asg_at e2).trans rfl
  have k0 : (mB (mBin eqD (mVarF 3) (mC (.int 0)))) ⟨[.rf 0, .d r5, .d (.int w), .d (.int u), .no], [tinC a2 b t2']⟩ = .ok (decide (u = 0)) ⟨[.rf 0, .d r5, .d (.int w), .d (.int u), .no], [tinC a2 b t2']⟩ := b_at (bin_at (f := eqD) (a := .int u) (b := .int 0) rfl rfl (eqI_at u 0))
  have k1 : (mB (mBin eqD (mVarF 3) (mC (.int 1)))) ⟨[.rf 0, .d r5, .d (.int w), .d (.int u), .no], [tinC a2 b t2']⟩ = .ok (decide (u = 1)) ⟨[.rf 0, .d r5, .d (.int w), .d (.int u), .no], [tinC a2 b t2']⟩ := b_at (bin_at (f := eqD) (a := .int u) (b := .int 1) rfl rfl (eqI_at u 1))
  by_cases q0 : u = 0
  · rw [decide_eq_true q0] at k0
    refine ⟨.bl true, a2, t2', ⟨[.rf 0, .d r5, .d (.int w), .d (.int u), .no], [tinC a2 b t2']⟩, rfl, p3, by omega, ?_, rfl⟩
    unfold m__law_five_right
    refine seq_to s1 (seq_to s2 (seq_rt (if_to k0 (ret_at (call_at (as := [.tup [.int 19, r5P], .tup [.int 19, r5P]]) (cons_at (call_at (as := [.int 5]) rfl crule_5) (cons_at (d := .tup [.int 19, r5P]) rfl (e := (rfl : mNil _ = _)))) full_5.hsm8)))))
  · rw [decide_eq_false q0] at k0
    by_cases q1 : u = 1
    · rw [decide_eq_true q1] at k1
      obtain ⟨c, j1, j2, j3⟩ := full_5.counts w w1 w2
      refine ⟨.bl true, a2, t2', ⟨[.rf 0, .d r5, .d (.int w), .d (.int u), .no], [tinC a2 b t2']⟩, rfl, p3, by omega, ?_, rfl⟩
      unfold m__law_five_right
      refine seq_to s1 (seq_to s2 (seq_to (if_n k0) (seq_rt (if_to k1 (ret_at (call_at (as := [.int c, .int c]) (cons_at (call_at (as := [.int 5, .int w]) rfl j1) (cons_at (call_at (as := [.int 5, .int w]) rfl j2) (e := (rfl : mNil _ = _)))) (same_int 7 c)))))))
    · rw [decide_eq_false q1] at k1
      obtain ⟨f, a3, t3', f0, f1, p5, p6, e3⟩ := drawW (n := 1000000) (m := (mBin powD (mC (.int 10)) (mC (.int 6)))) (st := ⟨[.rf 0, .d r5, .d (.int w), .d (.int u), .no], [tinC a2 b t2']⟩) rfl (by decide) (by decide) rfl rfl p3 (by omega)
      have s3 : (mAsg 4 (mBin addKD (mC (.int 1)) (mCallR m__law_take 6 [] (rRef 0 (rDat (mBin powD (mC (.int 10)) (mC (.int 6))) rNil))))) ⟨[.rf 0, .d r5, .d (.int w), .d (.int u), .no], [tinC a2 b t2']⟩ = .nx ⟨[.rf 0, .d r5, .d (.int w), .d (.int u), .d (.int (1 + f))], [tinC a3 b t3']⟩ := (asg_at (bin_at (f := addKD) (a := .int 1) (b := .int f) rfl e3 rfl)).trans rfl
      obtain ⟨z, j1, j2⟩ := full_5.rests (1 + f) 997 (by omega) (by omega) (by decide) (by decide)
      refine ⟨.bl true, a3, t3', ⟨[.rf 0, .d r5, .d (.int w), .d (.int u), .d (.int (1 + f))], [tinC a3 b t3']⟩, rfl, p5, by omega, ?_, rfl⟩
      unfold m__law_five_right
      refine seq_to s1 (seq_to s2 (seq_to (if_n k0) (seq_to (if_n k1) (seq_to s3 (ret_at (call_at (as := [.int z, .int z]) (cons_at (call_at (as := [.int 5, .int (1 + f), .int 997]) rfl j1) (cons_at (call_at (as := [.int 5, .int (1 + f), .int 997]) rfl j2) (e := (rfl : mNil _ = _)))) (same_int 7 z)))))))
theorem law_true : ∀ ns : List Int, ns.length ≤ 63 → trueS (m_law (S.start [.d (.ks (ns.map .int))] 2 [])) = true := fun ns hl => by
  unfold m_law
  refine law_tin (A := m__law_by_hand_right) (n := 0) (seed := 5322028) hand_true (fun ns x y => ?_) ns hl
  obtain ⟨d, a', t', ⟨v, rfl, v0, v1⟩, q1, q2, e⟩ := callR_at (ms := m__law_take) (n := 6) (st := tinS ns 0 x y 0) (k := 1 - 1) (takeW_rnR 8 (by decide) (by decide)) (ref_at (i := 1) (r := rDat (mC (.int 8)) rNil) (as := [.int 8]) rfl rfl) rfl (Int.le_refl 0) (by decide)
  have k0 : (mB (mBin eqD (mCallR m__law_take 6 [] (rRef 1 (rDat (mC (.int 8)) rNil))) (mC (.int 0)))) (tinS ns 0 x y 0) = .ok (decide (v = 0)) (tinS ns 0 a' y t') := b_at (bin_at (f := eqD) (a := .int v) (b := .int 0) e rfl (eqI_at v 0))
  by_cases q : v = 0
  · rw [decide_eq_true q] at k0
    obtain ⟨d, a2, t2, rfl, _, _, e2⟩ := callR_at (ms := m__law_five_right) (n := 5) (st := tinS ns 0 a' y t') (k := 0) five_rnR (ref_at (i := 1) (r := rNil) (as := []) rfl rfl) rfl q1 (by omega)
    exact ret_true (ife_t k0 e2)
  · rw [decide_eq_false q] at k0
    obtain ⟨d, a2, t2, rfl, _, _, e2⟩ := callR_at (ms := m__law_right) (n := 9) (st := tinS ns 0 a' y t') (k := 0) right_rnR (ref_at (i := 1) (r := rNil) (as := []) rfl rfl) rfl q1 (by omega)
    exact ret_true (ife_f k0 e2)
set_option maxHeartbeats 8000000
def atl : List (Str × Option Str) := [(.ofString "is_number", none), (.ofString "needed", none), (.ofString "plain_number", none), (.ofString "need_from", none), (.ofString "check_high", none), (.ofString "check_corridor", none), (.ofString "need_corridor", none), (.ofString "reduced", none), (.ofString "times", none), (.ofString "power", none), (.ofString "corridor_count", none), (.ofString "corridor_rest", none), (.ofString "corridor_rule", none), (.ofString "_law_box", none), (.ofString "_law_take", none), (.ofString "_law_cells", none), (.ofString "_law_same", none), (.ofString "_law_over", none), (.ofString "_law_plan", none), (.ofString "_law_kinds_next", none), (.ofString "_law_moved_on", none), (.ofString "_law_lets_of", none), (.ofString "_law_layers", none), (.ofString "_law_many", none), (.ofString "_law_boxed", none), (.ofString "_law_rule_of", none), (.ofString "_law_counted_on", none), (.ofString "_law_times", none), (.ofString "_law_rest_of", none), (.ofString "_law_by_hand_right", none), (.ofString "_law_right", none), (.ofString "_law_five_right", none), (.ofString "law", none)]
def gFn (K : PySem.W.Frag) (i : Nat) : Addr := He.fAd K (atl.getD i (.empty, none))
def pol : List Nat := [0, 1, 2, 3, 4, 5, 6, 7, 8, 9, 10, 11, 12, 13, 14, 15, 16, 17, 18, 19, 20, 21, 22, 23, 24, 25, 26, 27, 28, 29, 30, 31, 32]
def gdn (gd : Nat → FuncData) (i : Nat) : FuncData := gd (pol.getD i 0)
def cll : List Str := ["TooMany", "Unfit"]
def gCn (K : PySem.W.Frag) (n : Nat) : Addr := He.ga K (cll.getD n .empty)
def gfn (n : Nat) : List Str := ([[], []] : List (List Str)).getD n []
def gIn (K : PySem.W.Frag) (n : Nat) : Addr := He.fAd K (cll.getD n .empty, some "__init__")
def poi : List Nat := [33, 34]
def gDn (gd : Nat → FuncData) (n : Nat) : FuncData := gd (poi.getD n 0)
def d_is_number : He.DefD := ⟨("is_number", none), "is_number", "is_number", defArgs s_is_number, defBody s_is_number, defScope s_is_number, [], []⟩
def d_needed : He.DefD := ⟨("needed", none), "needed", "needed", defArgs s_needed, defBody s_needed, defScope s_needed, [], []⟩
def d_plain_number : He.DefD := ⟨("plain_number", none), "plain_number", "plain_number", defArgs s_plain_number, defBody s_plain_number, defScope s_plain_number, [.non], []⟩
def d_need_from : He.DefD := ⟨("need_from", none), "need_from", "need_from", defArgs s_need_from, defBody s_need_from, defScope s_need_from, [], []⟩
def d_check_high : He.DefD := ⟨("check_high", none), "check_high", "check_high", defArgs s_check_high, defBody s_check_high, defScope s_check_high, [], []⟩
def d_check_corridor : He.DefD := ⟨("check_corridor", none), "check_corridor", "check_corridor", defArgs s_check_corridor, defBody s_check_corridor, defScope s_check_corridor, [], []⟩
def d_need_corridor : He.DefD := ⟨("need_corridor", none), "need_corridor", "need_corridor", defArgs s_need_corridor, defBody s_need_corridor, defScope s_need_corridor, [], []⟩
def d_reduced : He.DefD := ⟨("reduced", none), "reduced", "reduced", defArgs s_reduced, defBody s_reduced, defScope s_reduced, [], []⟩
def d_times : He.DefD := ⟨("times", none), "times", "times", defArgs s_times, defBody s_times, defScope s_times, [], []⟩
def d_power : He.DefD := ⟨("power", none), "power", "power", defArgs s_power, defBody s_power, defScope s_power, [], []⟩
def d_corridor_count : He.DefD := ⟨("corridor_count", none), "corridor_count", "corridor_count", defArgs s_corridor_count, defBody s_corridor_count, defScope s_corridor_count, [], []⟩
def d_corridor_rest : He.DefD := ⟨("corridor_rest", none), "corridor_rest", "corridor_rest", defArgs s_corridor_rest, defBody s_corridor_rest, defScope s_corridor_rest, [], []⟩
def d_corridor_rule : He.DefD := ⟨("corridor_rule", none), "corridor_rule", "corridor_rule", defArgs s_corridor_rule, defBody s_corridor_rule, defScope s_corridor_rule, [], []⟩
def d__law_box : He.DefD := ⟨("_law_box", none), "_law_box", "_law_box", defArgs s__law_box, defBody s__law_box, defScope s__law_box, [], []⟩
def d__law_take : He.DefD := ⟨("_law_take", none), "_law_take", "_law_take", defArgs s__law_take, defBody s__law_take, defScope s__law_take, [], []⟩
def d__law_cells : He.DefD := ⟨("_law_cells", none), "_law_cells", "_law_cells", defArgs s__law_cells, defBody s__law_cells, defScope s__law_cells, [], []⟩
def d__law_same : He.DefD := ⟨("_law_same", none), "_law_same", "_law_same", defArgs s__law_same, defBody s__law_same, defScope s__law_same, [], []⟩
def d__law_over : He.DefD := ⟨("_law_over", none), "_law_over", "_law_over", defArgs s__law_over, defBody s__law_over, defScope s__law_over, [], []⟩
def d__law_plan : He.DefD := ⟨("_law_plan", none), "_law_plan", "_law_plan", defArgs s__law_plan, defBody s__law_plan, defScope s__law_plan, [], []⟩
def d__law_kinds_next : He.DefD := ⟨("_law_kinds_next", none), "_law_kinds_next", "_law_kinds_next", defArgs s__law_kinds_next, defBody s__law_kinds_next, defScope s__law_kinds_next, [], []⟩
def d__law_moved_on : He.DefD := ⟨("_law_moved_on", none), "_law_moved_on", "_law_moved_on", defArgs s__law_moved_on, defBody s__law_moved_on, defScope s__law_moved_on, [], []⟩
def d__law_lets_of : He.DefD := ⟨("_law_lets_of", none), "_law_lets_of", "_law_lets_of", defArgs s__law_lets_of, defBody s__law_lets_of, defScope s__law_lets_of, [], []⟩
def d__law_layers : He.DefD := ⟨("_law_layers", none), "_law_layers", "_law_layers", defArgs s__law_layers, defBody s__law_layers, defScope s__law_layers, [], []⟩
def d__law_many : He.DefD := ⟨("_law_many", none), "_law_many", "_law_many", defArgs s__law_many, defBody s__law_many, defScope s__law_many, [], []⟩
def d__law_boxed : He.DefD := ⟨("_law_boxed", none), "_law_boxed", "_law_boxed", defArgs s__law_boxed, defBody s__law_boxed, defScope s__law_boxed, [], []⟩
def d__law_rule_of : He.DefD := ⟨("_law_rule_of", none), "_law_rule_of", "_law_rule_of", defArgs s__law_rule_of, defBody s__law_rule_of, defScope s__law_rule_of, [], []⟩
def d__law_counted_on : He.DefD := ⟨("_law_counted_on", none), "_law_counted_on", "_law_counted_on", defArgs s__law_counted_on, defBody s__law_counted_on, defScope s__law_counted_on, [], []⟩
def d__law_times : He.DefD := ⟨("_law_times", none), "_law_times", "_law_times", defArgs s__law_times, defBody s__law_times, defScope s__law_times, [], []⟩
def d__law_rest_of : He.DefD := ⟨("_law_rest_of", none), "_law_rest_of", "_law_rest_of", defArgs s__law_rest_of, defBody s__law_rest_of, defScope s__law_rest_of, [], []⟩
def d__law_by_hand_right : He.DefD := ⟨("_law_by_hand_right", none), "_law_by_hand_right", "_law_by_hand_right", defArgs s__law_by_hand_right, defBody s__law_by_hand_right, defScope s__law_by_hand_right, [], []⟩
def d__law_right : He.DefD := ⟨("_law_right", none), "_law_right", "_law_right", defArgs s__law_right, defBody s__law_right, defScope s__law_right, [], []⟩
def d__law_five_right : He.DefD := ⟨("_law_five_right", none), "_law_five_right", "_law_five_right", defArgs s__law_five_right, defBody s__law_five_right, defScope s__law_five_right, [], []⟩
def d_law : He.DefD := ⟨("law", none), "law", "law", defArgs s_law, defBody s_law, defScope s_law, [], []⟩
def d_i_TooMany : He.DefD := ⟨("TooMany", some "__init__"), "__init__", "TooMany.__init__", defArgs si_TooMany, defBody si_TooMany, defScope si_TooMany, [], []⟩
def d_i_Unfit : He.DefD := ⟨("Unfit", some "__init__"), "__init__", "Unfit.__init__", defArgs si_Unfit, defBody si_Unfit, defScope si_Unfit, [], []⟩
def fnl : List He.DefD := [d_is_number, d_needed, d_plain_number, d_need_from, d_check_high, d_check_corridor, d_need_corridor, d_reduced, d_times, d_power, d_corridor_count, d_corridor_rest, d_corridor_rule, d__law_box, d__law_take, d__law_cells, d__law_same, d__law_over, d__law_plan, d__law_kinds_next, d__law_moved_on, d__law_lets_of, d__law_layers, d__law_many, d__law_boxed, d__law_rule_of, d__law_counted_on, d__law_times, d__law_rest_of, d__law_by_hand_right, d__law_right, d__law_five_right, d_law, d_i_TooMany, d_i_Unfit]
abbrev DD (K : PySem.W.Frag) (gd : Nat → FuncData) : Prop := ∀ (j : Nat) (d : He.DefD), fnl[j]? = some d → FunD K d.name d.qual d.params d.body d.scope (d.dvs K) (d.kws K) (He.fAd K d.at_) (gd j)
def fxl_0 : List Fx := [.a (.glo "is_number"), .a (.glo "needed"), .a (.glo "plain_number"), .a (.glo "need_from"), .a (.glo "check_high"), .a (.glo "check_corridor"), .a (.glo "need_corridor"), .a (.glo "reduced"), .a (.glo "times"), .a (.glo "power"), .a (.glo "corridor_count"), .a (.glo "corridor_rest"), .a (.glo "corridor_rule"), .a (.glo "_law_box"), .a (.glo "_law_take"), .a (.glo "_law_cells"), .a (.glo "_law_same"), .a (.glo "_law_over"), .a (.glo "_law_plan"), .a (.glo "_law_kinds_next"), .a (.glo "_law_moved_on"), .a (.glo "_law_lets_of"), .a (.glo "_law_layers"), .a (.glo "_law_many"), .a (.glo "_law_boxed"), .a (.glo "_law_rule_of"), .a (.glo "_law_counted_on"), .a (.glo "_law_times"), .a (.glo "_law_rest_of"), .a (.glo "_law_by_hand_right"), .a (.glo "_law_right"), .a (.glo "_law_five_right"), .a (.glo "law"), .err "TooMany" [.type "ValueError", .type "Exception", .type "BaseException", .type "object"] "ValueError.__new__" [], .a (.glo "TooMany"), .a (.exm "TooMany" "TooMany" true), .a (.exm "TooMany" "Unfit" false), .err "Unfit" [.type "ValueError", .type "Exception", .type "BaseException", .type "object"] "ValueError.__new__" [], .a (.glo "Unfit"), .a (.exm "Unfit" "TooMany" false)]
def fxl_1 : List Fx := [.a (.exm "Unfit" "Unfit" true), .vb "ValueError" "ValueError.__init__", .a (.free "ValueError"), .a (.free "abs"), .a (.free "all"), .a (.free "bool"), .a (.free "dict"), .a (.free "enumerate"), .a (.free "int"), .a (.free "isinstance"), .a (.free "len"), .a (.free "list"), .a (.free "range"), .a (.free "reversed"), .a (.free "str"), .a (.free "sum"), .a (.free "tuple"), .a (.free "zip"), .a (.int "HIGHEST" 5), .a (.int "WIDEST_COUNT" 2000), .con "PARTS" (.kt [(.kt [(.int 1), (.int 1)]), (.kt [(.int 2), (.int 0), (.int 2), (.int (-1))]), (.kt [(.int 1), (.int 2), (.int 0), (.int 2), (.int (-1)), (.int (-1))]), (.kt [(.int 1), (.int 1), (.int 1), (.int (-1)), (.int 7), (.int (-7)), (.int 1), (.int (-1)), (.int (-1)), (.int (-1)), (.int 1)]), (.kt [(.int 1), (.int 1), (.int (-1)), (.int 3), (.int (-1)), (.int 5), (.int (-2)), (.int (-5)), (.int (-1)), (.int (-3)), (.int (-1)), (.int (-1)), (.int 1), (.int 1)])]), .con "FIRST_COUNTS" (.kt [(.kt [(.int 1), (.int 2)]), (.kt [(.int 2), (.int 6), (.int 13), (.int 29)]), (.kt [(.int 3), (.int 13), (.int 22), (.int 44), (.int 90), (.int 196), (.int 406), (.int 852)]), (.kt [(.int 5), (.int 29), (.int 44), (.int 66), (.int 126), (.int 238), (.int 490), (.int 922), (.int 1714), (.int 3306), (.int 6246), (.int 12102), (.int 22994), (.int 43682)]), (.kt [(.int 8), (.int 68), (.int 90), (.int 126), (.int 178), (.int 325), (.int 584), (.int 1165), (.int 2030), (.int 3619), (.int 6080), (.int 10987), (.int 19362), (.int 35477), (.int 62360), (.int 111837), (.int 195614), (.int 350707)])])]
def fxl : List Fx := fxl_0 ++ fxl_1
theorem gq_0 (K : PySem.W.Frag) : gFn K 0 = He.fAd K ("is_number", none) := rfl
theorem pq_0 (gd : Nat → FuncData) : gdn gd 0 = gd 0 := rfl
theorem ff_is_number {K : PySem.W.Frag} {gd : Nat → FuncData} (D : DD K gd) : Fun K "is_number" "is_number" s_is_number (He.fAd K ("is_number", none)) (gd 0) := fun_of (D 0 d_is_number rfl)
theorem fb_is_number {K : PySem.W.Frag} {f : Addr} {fd : FuncData} (F : Fun K "is_number" "is_number" s_is_number f fd) : Binds K fd P_is_number [] := F.binds (ps := P_is_number) fun _ _ _ _ _ _ us hl => match us, hl with | [_], _ => rfl
theorem gq_1 (K : PySem.W.Frag) : gFn K 1 = He.fAd K ("needed", none) := rfl
theorem pq_1 (gd : Nat → FuncData) : gdn gd 1 = gd 1 := rfl
theorem ff_needed {K : PySem.W.Frag} {gd : Nat → FuncData} (D : DD K gd) : Fun K "needed" "needed" s_needed (He.fAd K ("needed", none)) (gd 1) := fun_of (D 1 d_needed rfl)
theorem fb_needed {K : PySem.W.Frag} {f : Addr} {fd : FuncData} (F : Fun K "needed" "needed" s_needed f fd) : Binds K fd P_needed [] := F.binds (ps := P_needed) fun _ _ _ _ _ _ us hl => match us, hl with | [_], _ => rfl
theorem gq_2 (K : PySem.W.Frag) : gFn K 2 = He.fAd K ("plain_number", none) := rfl
theorem pq_2 (gd : Nat → FuncData) : gdn gd 2 = gd 2 := rfl
theorem ff_plain_number {K : PySem.W.Frag} {gd : Nat → FuncData} (D : DD K gd) : FunD K "plain_number" "plain_number" (defArgs s_plain_number) (defBody s_plain_number) (defScope s_plain_number) [V.non] [] (He.fAd K ("plain_number", none)) (gd 2) := D 2 d_plain_number rfl
theorem fb_plain_number_0 {K : PySem.W.Frag} {f : Addr} {fd : FuncData} (F : FunD K "plain_number" "plain_number" (defArgs s_plain_number) (defBody s_plain_number) (defScope s_plain_number) [V.non] [] f fd) : ∃ ds, Vals ([V.non].drop 0) ds ∧ Binds K fd P_plain_number ds := F.binds1 (ps := P_plain_number) 2 0 (by intro z; cases z) rfl fun T kV dc pm an cd ct us its hu hi => match us, its, hu, hi with | [_, _], [_], _, _ => ⟨_, rfl, rfl⟩
theorem fb_plain_number_1 {K : PySem.W.Frag} {f : Addr} {fd : FuncData} (F : FunD K "plain_number" "plain_number" (defArgs s_plain_number) (defBody s_plain_number) (defScope s_plain_number) [V.non] [] f fd) : ∃ ds, Vals ([V.non].drop 1) ds ∧ Binds K fd P_plain_number ds := F.binds1 (ps := P_plain_number) 3 1 (by intro z; cases z) rfl fun T kV dc pm an cd ct us its hu hi => match us, its, hu, hi with | [_, _, _], [_], _, _ => ⟨_, rfl, rfl⟩
theorem gq_3 (K : PySem.W.Frag) : gFn K 3 = He.fAd K ("need_from", none) := rfl
theorem pq_3 (gd : Nat → FuncData) : gdn gd 3 = gd 3 := rfl
theorem ff_need_from {K : PySem.W.Frag} {gd : Nat → FuncData} (D : DD K gd) : Fun K "need_from" "need_from" s_need_from (He.fAd K ("need_from", none)) (gd 3) := fun_of (D 3 d_need_from rfl)
theorem fb_need_from {K : PySem.W.Frag} {f : Addr} {fd : FuncData} (F : Fun K "need_from" "need_from" s_need_from f fd) : Binds K fd P_need_from [] := F.binds (ps := P_need_from) fun _ _ _ _ _ _ us hl => match us, hl with | [_, _], _ => rfl
theorem gq_4 (K : PySem.W.Frag) : gFn K 4 = He.fAd K ("check_high", none) := rfl
theorem pq_4 (gd : Nat → FuncData) : gdn gd 4 = gd 4 := rfl
theorem ff_check_high {K : PySem.W.Frag} {gd : Nat → FuncData} (D : DD K gd) : Fun K "check_high" "check_high" s_check_high (He.fAd K ("check_high", none)) (gd 4) := fun_of (D 4 d_check_high rfl)
theorem fb_check_high {K : PySem.W.Frag} {f : Addr} {fd : FuncData} (F : Fun K "check_high" "check_high" s_check_high f fd) : Binds K fd P_check_high [] := F.binds (ps := P_check_high) fun _ _ _ _ _ _ us hl => match us, hl with | [_], _ => rfl
theorem gq_5 (K : PySem.W.Frag) : gFn K 5 = He.fAd K ("check_corridor", none) := rfl
theorem pq_5 (gd : Nat → FuncData) : gdn gd 5 = gd 5 := rfl
theorem ff_check_corridor {K : PySem.W.Frag} {gd : Nat → FuncData} (D : DD K gd) : Fun K "check_corridor" "check_corridor" s_check_corridor (He.fAd K ("check_corridor", none)) (gd 5) := fun_of (D 5 d_check_corridor rfl)
theorem fb_check_corridor {K : PySem.W.Frag} {f : Addr} {fd : FuncData} (F : Fun K "check_corridor" "check_corridor" s_check_corridor f fd) : Binds K fd P_check_corridor [] := F.binds (ps := P_check_corridor) fun _ _ _ _ _ _ us hl => match us, hl with | [_, _, _], _ => rfl
theorem gq_6 (K : PySem.W.Frag) : gFn K 6 = He.fAd K ("need_corridor", none) := rfl
theorem pq_6 (gd : Nat → FuncData) : gdn gd 6 = gd 6 := rfl
theorem ff_need_corridor {K : PySem.W.Frag} {gd : Nat → FuncData} (D : DD K gd) : Fun K "need_corridor" "need_corridor" s_need_corridor (He.fAd K ("need_corridor", none)) (gd 6) := fun_of (D 6 d_need_corridor rfl)
theorem fb_need_corridor {K : PySem.W.Frag} {f : Addr} {fd : FuncData} (F : Fun K "need_corridor" "need_corridor" s_need_corridor f fd) : Binds K fd P_need_corridor [] := F.binds (ps := P_need_corridor) fun _ _ _ _ _ _ us hl => match us, hl with | [_, _, _], _ => rfl
theorem gq_7 (K : PySem.W.Frag) : gFn K 7 = He.fAd K ("reduced", none) := rfl
theorem pq_7 (gd : Nat → FuncData) : gdn gd 7 = gd 7 := rfl
theorem ff_reduced {K : PySem.W.Frag} {gd : Nat → FuncData} (D : DD K gd) : Fun K "reduced" "reduced" s_reduced (He.fAd K ("reduced", none)) (gd 7) := fun_of (D 7 d_reduced rfl)
theorem fb_reduced {K : PySem.W.Frag} {f : Addr} {fd : FuncData} (F : Fun K "reduced" "reduced" s_reduced f fd) : Binds K fd P_reduced [] := F.binds (ps := P_reduced) fun _ _ _ _ _ _ us hl => match us, hl with | [_, _, _], _ => rfl
theorem gq_8 (K : PySem.W.Frag) : gFn K 8 = He.fAd K ("times", none) := rfl
theorem pq_8 (gd : Nat → FuncData) : gdn gd 8 = gd 8 := rfl
theorem ff_times {K : PySem.W.Frag} {gd : Nat → FuncData} (D : DD K gd) : Fun K "times" "times" s_times (He.fAd K ("times", none)) (gd 8) := fun_of (D 8 d_times rfl)
theorem fb_times {K : PySem.W.Frag} {f : Addr} {fd : FuncData} (F : Fun K "times" "times" s_times f fd) : Binds K fd P_times [] := F.binds (ps := P_times) fun _ _ _ _ _ _ us hl => match us, hl with | [_, _, _], _ => rfl
theorem gq_9 (K : PySem.W.Frag) : gFn K 9 = He.fAd K ("power", none) := rfl
theorem pq_9 (gd : Nat → FuncData) : gdn gd 9 = gd 9 := rfl
theorem ff_power {K : PySem.W.Frag} {gd : Nat → FuncData} (D : DD K gd) : Fun K "power" "power" s_power (He.fAd K ("power", none)) (gd 9) := fun_of (D 9 d_power rfl)
theorem fb_power {K : PySem.W.Frag} {f : Addr} {fd : FuncData} (F : Fun K "power" "power" s_power f fd) : Binds K fd P_power [] := F.binds (ps := P_power) fun _ _ _ _ _ _ us hl => match us, hl with | [_, _, _], _ => rfl
theorem gq_10 (K : PySem.W.Frag) : gFn K 10 = He.fAd K ("corridor_count", none) := rfl
theorem pq_10 (gd : Nat → FuncData) : gdn gd 10 = gd 10 := rfl
theorem ff_corridor_count {K : PySem.W.Frag} {gd : Nat → FuncData} (D : DD K gd) : Fun K "corridor_count" "corridor_count" s_corridor_count (He.fAd K ("corridor_count", none)) (gd 10) := fun_of (D 10 d_corridor_count rfl)
theorem fb_corridor_count {K : PySem.W.Frag} {f : Addr} {fd : FuncData} (F : Fun K "corridor_count" "corridor_count" s_corridor_count f fd) : Binds K fd P_corridor_count [] := F.binds (ps := P_corridor_count) fun _ _ _ _ _ _ us hl => match us, hl with | [_, _], _ => rfl
theorem fk_w_corridor_count_0 {K : PySem.W.Frag} {f : Addr} {fd : FuncData} (F : Fun K "corridor_count" "corridor_count" s_corridor_count f fd) : KwOk K fd P_corridor_count ["wide", "high"] [1, 0] := kw_of F fun _ _ _ _ _ _ s ws _ hl => match ws, hl with | [_, _], _ => .of_eq rfl
theorem gq_11 (K : PySem.W.Frag) : gFn K 11 = He.fAd K ("corridor_rest", none) := rfl
theorem pq_11 (gd : Nat → FuncData) : gdn gd 11 = gd 11 := rfl
theorem ff_corridor_rest {K : PySem.W.Frag} {gd : Nat → FuncData} (D : DD K gd) : Fun K "corridor_rest" "corridor_rest" s_corridor_rest (He.fAd K ("corridor_rest", none)) (gd 11) := fun_of (D 11 d_corridor_rest rfl)
theorem fb_corridor_rest {K : PySem.W.Frag} {f : Addr} {fd : FuncData} (F : Fun K "corridor_rest" "corridor_rest" s_corridor_rest f fd) : Binds K fd P_corridor_rest [] := F.binds (ps := P_corridor_rest) fun _ _ _ _ _ _ us hl => match us, hl with | [_, _, _], _ => rfl
theorem fk_w_corridor_rest_0 {K : PySem.W.Frag} {f : Addr} {fd : FuncData} (F : Fun K "corridor_rest" "corridor_rest" s_corridor_rest f fd) : KwOk K fd P_corridor_rest ["number", "wide", "high"] [2, 1, 0] := kw_of F fun _ _ _ _ _ _ s ws _ hl => match ws, hl with | [_, _, _], _ => .of_eq rfl
theorem gq_12 (K : PySem.W.Frag) : gFn K 12 = He.fAd K ("corridor_rule", none) := rfl
theorem pq_12 (gd : Nat → FuncData) : gdn gd 12 = gd 12 := rfl
theorem ff_corridor_rule {K : PySem.W.Frag} {gd : Nat → FuncData} (D : DD K gd) : Fun K "corridor_rule" "corridor_rule" s_corridor_rule (He.fAd K ("corridor_rule", none)) (gd 12) := fun_of (D 12 d_corridor_rule rfl)
theorem fb_corridor_rule {K : PySem.W.Frag} {f : Addr} {fd : FuncData} (F : Fun K "corridor_rule" "corridor_rule" s_corridor_rule f fd) : Binds K fd P_corridor_rule [] := F.binds (ps := P_corridor_rule) fun _ _ _ _ _ _ us hl => match us, hl with | [_], _ => rfl
theorem fk_w_corridor_rule_0 {K : PySem.W.Frag} {f : Addr} {fd : FuncData} (F : Fun K "corridor_rule" "corridor_rule" s_corridor_rule f fd) : KwOk K fd P_corridor_rule ["high"] [0] := kw_of F fun _ _ _ _ _ _ s ws _ hl => match ws, hl with | [_], _ => .of_eq rfl
theorem gq_13 (K : PySem.W.Frag) : gFn K 13 = He.fAd K ("_law_box", none) := rfl
theorem pq_13 (gd : Nat → FuncData) : gdn gd 13 = gd 13 := rfl
theorem ff__law_box {K : PySem.W.Frag} {gd : Nat → FuncData} (D : DD K gd) : Fun K "_law_box" "_law_box" s__law_box (He.fAd K ("_law_box", none)) (gd 13) := fun_of (D 13 d__law_box rfl)
theorem fb__law_box {K : PySem.W.Frag} {f : Addr} {fd : FuncData} (F : Fun K "_law_box" "_law_box" s__law_box f fd) : Binds K fd P__law_box [] := F.binds (ps := P__law_box) fun _ _ _ _ _ _ us hl => match us, hl with | [_, _], _ => rfl
theorem gq_14 (K : PySem.W.Frag) : gFn K 14 = He.fAd K ("_law_take", none) := rfl
theorem pq_14 (gd : Nat → FuncData) : gdn gd 14 = gd 14 := rfl
theorem ff__law_take {K : PySem.W.Frag} {gd : Nat → FuncData} (D : DD K gd) : Fun K "_law_take" "_law_take" s__law_take (He.fAd K ("_law_take", none)) (gd 14) := fun_of (D 14 d__law_take rfl)
theorem fb__law_take {K : PySem.W.Frag} {f : Addr} {fd : FuncData} (F : Fun K "_law_take" "_law_take" s__law_take f fd) : Binds K fd P__law_take [] := F.binds (ps := P__law_take) fun _ _ _ _ _ _ us hl => match us, hl with | [_, _], _ => rfl
theorem gq_15 (K : PySem.W.Frag) : gFn K 15 = He.fAd K ("_law_cells", none) := rfl
theorem pq_15 (gd : Nat → FuncData) : gdn gd 15 = gd 15 := rfl
theorem ff__law_cells {K : PySem.W.Frag} {gd : Nat → FuncData} (D : DD K gd) : Fun K "_law_cells" "_law_cells" s__law_cells (He.fAd K ("_law_cells", none)) (gd 15) := fun_of (D 15 d__law_cells rfl)
theorem fb__law_cells {K : PySem.W.Frag} {f : Addr} {fd : FuncData} (F : Fun K "_law_cells" "_law_cells" s__law_cells f fd) : Binds K fd P__law_cells [] := F.binds (ps := P__law_cells) fun _ _ _ _ _ _ us hl => match us, hl with | [_, _], _ => rfl
theorem gq_16 (K : PySem.W.Frag) : gFn K 16 = He.fAd K ("_law_same", none) := rfl
theorem pq_16 (gd : Nat → FuncData) : gdn gd 16 = gd 16 := rfl
theorem ff__law_same {K : PySem.W.Frag} {gd : Nat → FuncData} (D : DD K gd) : Fun K "_law_same" "_law_same" s__law_same (He.fAd K ("_law_same", none)) (gd 16) := fun_of (D 16 d__law_same rfl)
theorem fb__law_same {K : PySem.W.Frag} {f : Addr} {fd : FuncData} (F : Fun K "_law_same" "_law_same" s__law_same f fd) : Binds K fd P__law_same [] := F.binds (ps := P__law_same) fun _ _ _ _ _ _ us hl => match us, hl with | [_, _], _ => rfl
theorem gq_17 (K : PySem.W.Frag) : gFn K 17 = He.fAd K ("_law_over", none) := rfl
theorem pq_17 (gd : Nat → FuncData) : gdn gd 17 = gd 17 := rfl
theorem ff__law_over {K : PySem.W.Frag} {gd : Nat → FuncData} (D : DD K gd) : Fun K "_law_over" "_law_over" s__law_over (He.fAd K ("_law_over", none)) (gd 17) := fun_of (D 17 d__law_over rfl)
theorem fb__law_over {K : PySem.W.Frag} {f : Addr} {fd : FuncData} (F : Fun K "_law_over" "_law_over" s__law_over f fd) : Binds K fd P__law_over [] := F.binds (ps := P__law_over) fun _ _ _ _ _ _ us hl => match us, hl with | [_, _], _ => rfl
theorem gq_18 (K : PySem.W.Frag) : gFn K 18 = He.fAd K ("_law_plan", none) := rfl
theorem pq_18 (gd : Nat → FuncData) : gdn gd 18 = gd 18 := rfl
theorem ff__law_plan {K : PySem.W.Frag} {gd : Nat → FuncData} (D : DD K gd) : Fun K "_law_plan" "_law_plan" s__law_plan (He.fAd K ("_law_plan", none)) (gd 18) := fun_of (D 18 d__law_plan rfl)
theorem fb__law_plan {K : PySem.W.Frag} {f : Addr} {fd : FuncData} (F : Fun K "_law_plan" "_law_plan" s__law_plan f fd) : Binds K fd P__law_plan [] := F.binds (ps := P__law_plan) fun _ _ _ _ _ _ us hl => match us, hl with | [_], _ => rfl
theorem gq_19 (K : PySem.W.Frag) : gFn K 19 = He.fAd K ("_law_kinds_next", none) := rfl
theorem pq_19 (gd : Nat → FuncData) : gdn gd 19 = gd 19 := rfl
theorem ff__law_kinds_next {K : PySem.W.Frag} {gd : Nat → FuncData} (D : DD K gd) : Fun K "_law_kinds_next" "_law_kinds_next" s__law_kinds_next (He.fAd K ("_law_kinds_next", none)) (gd 19) := fun_of (D 19 d__law_kinds_next rfl)
theorem fb__law_kinds_next {K : PySem.W.Frag} {f : Addr} {fd : FuncData} (F : Fun K "_law_kinds_next" "_law_kinds_next" s__law_kinds_next f fd) : Binds K fd P__law_kinds_next [] := F.binds (ps := P__law_kinds_next) fun _ _ _ _ _ _ us hl => match us, hl with | [_, _, _], _ => rfl
theorem gq_20 (K : PySem.W.Frag) : gFn K 20 = He.fAd K ("_law_moved_on", none) := rfl
theorem pq_20 (gd : Nat → FuncData) : gdn gd 20 = gd 20 := rfl
theorem ff__law_moved_on {K : PySem.W.Frag} {gd : Nat → FuncData} (D : DD K gd) : Fun K "_law_moved_on" "_law_moved_on" s__law_moved_on (He.fAd K ("_law_moved_on", none)) (gd 20) := fun_of (D 20 d__law_moved_on rfl)
theorem fb__law_moved_on {K : PySem.W.Frag} {f : Addr} {fd : FuncData} (F : Fun K "_law_moved_on" "_law_moved_on" s__law_moved_on f fd) : Binds K fd P__law_moved_on [] := F.binds (ps := P__law_moved_on) fun _ _ _ _ _ _ us hl => match us, hl with | [_, _, _], _ => rfl
theorem gq_21 (K : PySem.W.Frag) : gFn K 21 = He.fAd K ("_law_lets_of", none) := rfl
theorem pq_21 (gd : Nat → FuncData) : gdn gd 21 = gd 21 := rfl
theorem ff__law_lets_of {K : PySem.W.Frag} {gd : Nat → FuncData} (D : DD K gd) : Fun K "_law_lets_of" "_law_lets_of" s__law_lets_of (He.fAd K ("_law_lets_of", none)) (gd 21) := fun_of (D 21 d__law_lets_of rfl)
theorem fb__law_lets_of {K : PySem.W.Frag} {f : Addr} {fd : FuncData} (F : Fun K "_law_lets_of" "_law_lets_of" s__law_lets_of f fd) : Binds K fd P__law_lets_of [] := F.binds (ps := P__law_lets_of) fun _ _ _ _ _ _ us hl => match us, hl with | [_, _], _ => rfl
theorem gq_22 (K : PySem.W.Frag) : gFn K 22 = He.fAd K ("_law_layers", none) := rfl
theorem pq_22 (gd : Nat → FuncData) : gdn gd 22 = gd 22 := rfl
theorem ff__law_layers {K : PySem.W.Frag} {gd : Nat → FuncData} (D : DD K gd) : Fun K "_law_layers" "_law_layers" s__law_layers (He.fAd K ("_law_layers", none)) (gd 22) := fun_of (D 22 d__law_layers rfl)
theorem fb__law_layers {K : PySem.W.Frag} {f : Addr} {fd : FuncData} (F : Fun K "_law_layers" "_law_layers" s__law_layers f fd) : Binds K fd P__law_layers [] := F.binds (ps := P__law_layers) fun _ _ _ _ _ _ us hl => match us, hl with | [_, _], _ => rfl
theorem gq_23 (K : PySem.W.Frag) : gFn K 23 = He.fAd K ("_law_many", none) := rfl
theorem pq_23 (gd : Nat → FuncData) : gdn gd 23 = gd 23 := rfl
theorem ff__law_many {K : PySem.W.Frag} {gd : Nat → FuncData} (D : DD K gd) : Fun K "_law_many" "_law_many" s__law_many (He.fAd K ("_law_many", none)) (gd 23) := fun_of (D 23 d__law_many rfl)
theorem fb__law_many {K : PySem.W.Frag} {f : Addr} {fd : FuncData} (F : Fun K "_law_many" "_law_many" s__law_many f fd) : Binds K fd P__law_many [] := F.binds (ps := P__law_many) fun _ _ _ _ _ _ us hl => match us, hl with | [_, _], _ => rfl
theorem gq_24 (K : PySem.W.Frag) : gFn K 24 = He.fAd K ("_law_boxed", none) := rfl
theorem pq_24 (gd : Nat → FuncData) : gdn gd 24 = gd 24 := rfl
theorem ff__law_boxed {K : PySem.W.Frag} {gd : Nat → FuncData} (D : DD K gd) : Fun K "_law_boxed" "_law_boxed" s__law_boxed (He.fAd K ("_law_boxed", none)) (gd 24) := fun_of (D 24 d__law_boxed rfl)
theorem fb__law_boxed {K : PySem.W.Frag} {f : Addr} {fd : FuncData} (F : Fun K "_law_boxed" "_law_boxed" s__law_boxed f fd) : Binds K fd P__law_boxed [] := F.binds (ps := P__law_boxed) fun _ _ _ _ _ _ us hl => match us, hl with | [_, _], _ => rfl
theorem gq_25 (K : PySem.W.Frag) : gFn K 25 = He.fAd K ("_law_rule_of", none) := rfl
theorem pq_25 (gd : Nat → FuncData) : gdn gd 25 = gd 25 := rfl
theorem ff__law_rule_of {K : PySem.W.Frag} {gd : Nat → FuncData} (D : DD K gd) : Fun K "_law_rule_of" "_law_rule_of" s__law_rule_of (He.fAd K ("_law_rule_of", none)) (gd 25) := fun_of (D 25 d__law_rule_of rfl)
theorem fb__law_rule_of {K : PySem.W.Frag} {f : Addr} {fd : FuncData} (F : Fun K "_law_rule_of" "_law_rule_of" s__law_rule_of f fd) : Binds K fd P__law_rule_of [] := F.binds (ps := P__law_rule_of) fun _ _ _ _ _ _ us hl => match us, hl with | [_], _ => rfl
theorem gq_26 (K : PySem.W.Frag) : gFn K 26 = He.fAd K ("_law_counted_on", none) := rfl
theorem pq_26 (gd : Nat → FuncData) : gdn gd 26 = gd 26 := rfl
theorem ff__law_counted_on {K : PySem.W.Frag} {gd : Nat → FuncData} (D : DD K gd) : Fun K "_law_counted_on" "_law_counted_on" s__law_counted_on (He.fAd K ("_law_counted_on", none)) (gd 26) := fun_of (D 26 d__law_counted_on rfl)
theorem fb__law_counted_on {K : PySem.W.Frag} {f : Addr} {fd : FuncData} (F : Fun K "_law_counted_on" "_law_counted_on" s__law_counted_on f fd) : Binds K fd P__law_counted_on [] := F.binds (ps := P__law_counted_on) fun _ _ _ _ _ _ us hl => match us, hl with | [_, _], _ => rfl
theorem gq_27 (K : PySem.W.Frag) : gFn K 27 = He.fAd K ("_law_times", none) := rfl
theorem pq_27 (gd : Nat → FuncData) : gdn gd 27 = gd 27 := rfl
theorem ff__law_times {K : PySem.W.Frag} {gd : Nat → FuncData} (D : DD K gd) : Fun K "_law_times" "_law_times" s__law_times (He.fAd K ("_law_times", none)) (gd 27) := fun_of (D 27 d__law_times rfl)
theorem fb__law_times {K : PySem.W.Frag} {f : Addr} {fd : FuncData} (F : Fun K "_law_times" "_law_times" s__law_times f fd) : Binds K fd P__law_times [] := F.binds (ps := P__law_times) fun _ _ _ _ _ _ us hl => match us, hl with | [_, _, _, _], _ => rfl
theorem gq_28 (K : PySem.W.Frag) : gFn K 28 = He.fAd K ("_law_rest_of", none) := rfl
theorem pq_28 (gd : Nat → FuncData) : gdn gd 28 = gd 28 := rfl
theorem ff__law_rest_of {K : PySem.W.Frag} {gd : Nat → FuncData} (D : DD K gd) : Fun K "_law_rest_of" "_law_rest_of" s__law_rest_of (He.fAd K ("_law_rest_of", none)) (gd 28) := fun_of (D 28 d__law_rest_of rfl)
theorem fb__law_rest_of {K : PySem.W.Frag} {f : Addr} {fd : FuncData} (F : Fun K "_law_rest_of" "_law_rest_of" s__law_rest_of f fd) : Binds K fd P__law_rest_of [] := F.binds (ps := P__law_rest_of) fun _ _ _ _ _ _ us hl => match us, hl with | [_, _, _], _ => rfl
theorem gq_29 (K : PySem.W.Frag) : gFn K 29 = He.fAd K ("_law_by_hand_right", none) := rfl
theorem pq_29 (gd : Nat → FuncData) : gdn gd 29 = gd 29 := rfl
theorem ff__law_by_hand_right {K : PySem.W.Frag} {gd : Nat → FuncData} (D : DD K gd) : Fun K "_law_by_hand_right" "_law_by_hand_right" s__law_by_hand_right (He.fAd K ("_law_by_hand_right", none)) (gd 29) := fun_of (D 29 d__law_by_hand_right rfl)
theorem fb__law_by_hand_right {K : PySem.W.Frag} {f : Addr} {fd : FuncData} (F : Fun K "_law_by_hand_right" "_law_by_hand_right" s__law_by_hand_right f fd) : Binds K fd P__law_by_hand_right [] := F.binds (ps := P__law_by_hand_right) fun _ _ _ _ _ _ us hl => match us, hl with | [], _ => rfl
theorem gq_30 (K : PySem.W.Frag) : gFn K 30 = He.fAd K ("_law_right", none) := rfl
theorem pq_30 (gd : Nat → FuncData) : gdn gd 30 = gd 30 := rfl
theorem ff__law_right {K : PySem.W.Frag} {gd : Nat → FuncData} (D : DD K gd) : Fun K "_law_right" "_law_right" s__law_right (He.fAd K ("_law_right", none)) (gd 30) := fun_of (D 30 d__law_right rfl)
theorem fb__law_right {K : PySem.W.Frag} {f : Addr} {fd : FuncData} (F : Fun K "_law_right" "_law_right" s__law_right f fd) : Binds K fd P__law_right [] := F.binds (ps := P__law_right) fun _ _ _ _ _ _ us hl => match us, hl with | [_], _ => rfl
theorem gq_31 (K : PySem.W.Frag) : gFn K 31 = He.fAd K ("_law_five_right", none) := rfl
theorem pq_31 (gd : Nat → FuncData) : gdn gd 31 = gd 31 := rfl
theorem ff__law_five_right {K : PySem.W.Frag} {gd : Nat → FuncData} (D : DD K gd) : Fun K "_law_five_right" "_law_five_right" s__law_five_right (He.fAd K ("_law_five_right", none)) (gd 31) := fun_of (D 31 d__law_five_right rfl)
theorem fb__law_five_right {K : PySem.W.Frag} {f : Addr} {fd : FuncData} (F : Fun K "_law_five_right" "_law_five_right" s__law_five_right f fd) : Binds K fd P__law_five_right [] := F.binds (ps := P__law_five_right) fun _ _ _ _ _ _ us hl => match us, hl with | [_], _ => rfl
theorem gq_32 (K : PySem.W.Frag) : gFn K 32 = He.fAd K ("law", none) := rfl
theorem pq_32 (gd : Nat → FuncData) : gdn gd 32 = gd 32 := rfl
theorem ff_law {K : PySem.W.Frag} {gd : Nat → FuncData} (D : DD K gd) : Fun K "law" "law" s_law (He.fAd K ("law", none)) (gd 32) := fun_of (D 32 d_law rfl)
theorem fb_law {K : PySem.W.Frag} {f : Addr} {fd : FuncData} (F : Fun K "law" "law" s_law f fd) : Binds K fd P_law [] := F.binds (ps := P_law) fun _ _ _ _ _ _ us hl => match us, hl with | [_], _ => rfl
theorem iq_0 (K : PySem.W.Frag) : gIn K 0 = He.fAd K ("TooMany", some "__init__") := rfl
theorem jq_0 (gd : Nat → FuncData) : gDn gd 0 = gd 33 := rfl
theorem ff_i_TooMany {K : PySem.W.Frag} {gd : Nat → FuncData} (D : DD K gd) : Fun K "__init__" "TooMany.__init__" si_TooMany (He.fAd K ("TooMany", some "__init__")) (gd 33) := fun_of (D 33 d_i_TooMany rfl)
theorem fb_i_TooMany {K : PySem.W.Frag} {f : Addr} {fd : FuncData} (F : Fun K "__init__" "TooMany.__init__" si_TooMany f fd) : Binds K fd ["self"] [] := F.binds (ps := ["self"]) fun _ _ _ _ _ _ us hl => match us, hl with | [_], _ => rfl
theorem iq_1 (K : PySem.W.Frag) : gIn K 1 = He.fAd K ("Unfit", some "__init__") := rfl
theorem jq_1 (gd : Nat → FuncData) : gDn gd 1 = gd 34 := rfl
theorem ff_i_Unfit {K : PySem.W.Frag} {gd : Nat → FuncData} (D : DD K gd) : Fun K "__init__" "Unfit.__init__" si_Unfit (He.fAd K ("Unfit", some "__init__")) (gd 34) := fun_of (D 34 d_i_Unfit rfl)
theorem fb_i_Unfit {K : PySem.W.Frag} {f : Addr} {fd : FuncData} (F : Fun K "__init__" "Unfit.__init__" si_Unfit f fd) : Binds K fd ["self"] [] := F.binds (ps := ["self"]) fun _ _ _ _ _ _ us hl => match us, hl with | [_], _ => rfl
theorem cq_0 (K : PySem.W.Frag) : gCn K 0 = He.ga K "TooMany" := rfl
theorem cq_1 (K : PySem.W.Frag) : gCn K 1 = He.ga K "Unfit" := rfl
theorem tx_mk {K : PySem.W.Frag} {h : Heap} {mg : Str → Option Value} (c : SaysX fxl fnl K) (X : K.In h) (Gn : h.Ns mainGlobals mg) : ∃ gd : Nat → FuncData, Tx mg ⟨K, gFn K, gCn K, gfn⟩ (gdn gd) (gIn K) (gDn gd) := by
  obtain ⟨gd, D⟩ := c.defs
  exact ⟨gd, {
    F_is_number := at_fun (gq_0 K) (pq_0 gd) (ff_is_number D), b_is_number := at_binds (pq_0 gd) (fb_is_number (ff_is_number D)),
    m_is_number := at_mg (gq_0 K) (glo_x X Gn (c.fact 0 (f := .a (.glo "is_number")) rfl)),
    F_needed := at_fun (gq_1 K) (pq_1 gd) (ff_needed D), b_needed := at_binds (pq_1 gd) (fb_needed (ff_needed D)),
    m_needed := at_mg (gq_1 K) (glo_x X Gn (c.fact 1 (f := .a (.glo "needed")) rfl)),
    F_plain_number := at_funD (gq_2 K) (pq_2 gd) (ff_plain_number D),
    b_plain_number_0 := at_bindsD (pq_2 gd) (fb_plain_number_0 (ff_plain_number D)),
    b_plain_number_1 := at_bindsD (pq_2 gd) (fb_plain_number_1 (ff_plain_number D)),
    m_plain_number := at_mg (gq_2 K) (glo_x X Gn (c.fact 2 (f := .a (.glo "plain_number")) rfl)),
    F_need_from := at_fun (gq_3 K) (pq_3 gd) (ff_need_from D), b_need_from := at_binds (pq_3 gd) (fb_need_from (ff_need_from D)),
    m_need_from := at_mg (gq_3 K) (glo_x X Gn (c.fact 3 (f := .a (.glo "need_from")) rfl)),
    F_check_high := at_fun (gq_4 K) (pq_4 gd) (ff_check_high D), b_check_high := at_binds (pq_4 gd) (fb_check_high (ff_check_high D)),
    m_check_high := at_mg (gq_4 K) (glo_x X Gn (c.fact 4 (f := .a (.glo "check_high")) rfl)),
    F_check_corridor := at_fun (gq_5 K) (pq_5 gd) (ff_check_corridor D), b_check_corridor := at_binds (pq_5 gd) (fb_check_corridor (ff_check_corridor D)),
    m_check_corridor := at_mg (gq_5 K) (glo_x X Gn (c.fact 5 (f := .a (.glo "check_corridor")) rfl)),
    F_need_corridor := at_fun (gq_6 K) (pq_6 gd) (ff_need_corridor D), b_need_corridor := at_binds (pq_6 gd) (fb_need_corridor (ff_need_corridor D)),
    m_need_corridor := at_mg (gq_6 K) (glo_x X Gn (c.fact 6 (f := .a (.glo "need_corridor")) rfl)),
    F_reduced := at_fun (gq_7 K) (pq_7 gd) (ff_reduced D), b_reduced := at_binds (pq_7 gd) (fb_reduced (ff_reduced D)),
    m_reduced := at_mg (gq_7 K) (glo_x X Gn (c.fact 7 (f := .a (.glo "reduced")) rfl)),
    F_times := at_fun (gq_8 K) (pq_8 gd) (ff_times D), b_times := at_binds (pq_8 gd) (fb_times (ff_times D)),
    m_times := at_mg (gq_8 K) (glo_x X Gn (c.fact 8 (f := .a (.glo "times")) rfl)),
    F_power := at_fun (gq_9 K) (pq_9 gd) (ff_power D), b_power := at_binds (pq_9 gd) (fb_power (ff_power D)),
    m_power := at_mg (gq_9 K) (glo_x X Gn (c.fact 9 (f := .a (.glo "power")) rfl)),
    F_corridor_count := at_fun (gq_10 K) (pq_10 gd) (ff_corridor_count D), b_corridor_count := at_binds (pq_10 gd) (fb_corridor_count (ff_corridor_count D)),
    w_corridor_count_0 := at_kw (pq_10 gd) (fk_w_corridor_count_0 (ff_corridor_count D)),
    m_corridor_count := at_mg (gq_10 K) (glo_x X Gn (c.fact 10 (f := .a (.glo "corridor_count")) rfl)),
    F_corridor_rest := at_fun (gq_11 K) (pq_11 gd) (ff_corridor_rest D), b_corridor_rest := at_binds (pq_11 gd) (fb_corridor_rest (ff_corridor_rest D)),
    w_corridor_rest_0 := at_kw (pq_11 gd) (fk_w_corridor_rest_0 (ff_corridor_rest D)),
    m_corridor_rest := at_mg (gq_11 K) (glo_x X Gn (c.fact 11 (f := .a (.glo "corridor_rest")) rfl)),
    F_corridor_rule := at_fun (gq_12 K) (pq_12 gd) (ff_corridor_rule D), b_corridor_rule := at_binds (pq_12 gd) (fb_corridor_rule (ff_corridor_rule D)),
    w_corridor_rule_0 := at_kw (pq_12 gd) (fk_w_corridor_rule_0 (ff_corridor_rule D)),
    m_corridor_rule := at_mg (gq_12 K) (glo_x X Gn (c.fact 12 (f := .a (.glo "corridor_rule")) rfl)),
    F__law_box := at_fun (gq_13 K) (pq_13 gd) (ff__law_box D), b__law_box := at_binds (pq_13 gd) (fb__law_box (ff__law_box D)),
    m__law_box := at_mg (gq_13 K) (glo_x X Gn (c.fact 13 (f := .a (.glo "_law_box")) rfl)),
    F__law_take := at_fun (gq_14 K) (pq_14 gd) (ff__law_take D), b__law_take := at_binds (pq_14 gd) (fb__law_take (ff__law_take D)),
    m__law_take := at_mg (gq_14 K) (glo_x X Gn (c.fact 14 (f := .a (.glo "_law_take")) rfl)),
    F__law_cells := at_fun (gq_15 K) (pq_15 gd) (ff__law_cells D), b__law_cells := at_binds (pq_15 gd) (fb__law_cells (ff__law_cells D)),
    m__law_cells := at_mg (gq_15 K) (glo_x X Gn (c.fact 15 (f := .a (.glo "_law_cells")) rfl)),
    F__law_same := at_fun (gq_16 K) (pq_16 gd) (ff__law_same D), b__law_same := at_binds (pq_16 gd) (fb__law_same (ff__law_same D)),
    m__law_same := at_mg (gq_16 K) (glo_x X Gn (c.fact 16 (f := .a (.glo "_law_same")) rfl)),
    F__law_over := at_fun (gq_17 K) (pq_17 gd) (ff__law_over D), b__law_over := at_binds (pq_17 gd) (fb__law_over (ff__law_over D)),
    m__law_over := at_mg (gq_17 K) (glo_x X Gn (c.fact 17 (f := .a (.glo "_law_over")) rfl)),
    F__law_plan := at_fun (gq_18 K) (pq_18 gd) (ff__law_plan D), b__law_plan := at_binds (pq_18 gd) (fb__law_plan (ff__law_plan D)),
    m__law_plan := at_mg (gq_18 K) (glo_x X Gn (c.fact 18 (f := .a (.glo "_law_plan")) rfl)),
    F__law_kinds_next := at_fun (gq_19 K) (pq_19 gd) (ff__law_kinds_next D), b__law_kinds_next := at_binds (pq_19 gd) (fb__law_kinds_next (ff__law_kinds_next D)),
    m__law_kinds_next := at_mg (gq_19 K) (glo_x X Gn (c.fact 19 (f := .a (.glo "_law_kinds_next")) rfl)),
    F__law_moved_on := at_fun (gq_20 K) (pq_20 gd) (ff__law_moved_on D), b__law_moved_on := at_binds (pq_20 gd) (fb__law_moved_on (ff__law_moved_on D)),
    m__law_moved_on := at_mg (gq_20 K) (glo_x X Gn (c.fact 20 (f := .a (.glo "_law_moved_on")) rfl)),
    F__law_lets_of := at_fun (gq_21 K) (pq_21 gd) (ff__law_lets_of D), b__law_lets_of := at_binds (pq_21 gd) (fb__law_lets_of (ff__law_lets_of D)),
    m__law_lets_of := at_mg (gq_21 K) (glo_x X Gn (c.fact 21 (f := .a (.glo "_law_lets_of")) rfl)),
    F__law_layers := at_fun (gq_22 K) (pq_22 gd) (ff__law_layers D), b__law_layers := at_binds (pq_22 gd) (fb__law_layers (ff__law_layers D)),
    m__law_layers := at_mg (gq_22 K) (glo_x X Gn (c.fact 22 (f := .a (.glo "_law_layers")) rfl)),
    F__law_many := at_fun (gq_23 K) (pq_23 gd) (ff__law_many D), b__law_many := at_binds (pq_23 gd) (fb__law_many (ff__law_many D)),
    m__law_many := at_mg (gq_23 K) (glo_x X Gn (c.fact 23 (f := .a (.glo "_law_many")) rfl)),
    F__law_boxed := at_fun (gq_24 K) (pq_24 gd) (ff__law_boxed D), b__law_boxed := at_binds (pq_24 gd) (fb__law_boxed (ff__law_boxed D)),
    m__law_boxed := at_mg (gq_24 K) (glo_x X Gn (c.fact 24 (f := .a (.glo "_law_boxed")) rfl)),
    F__law_rule_of := at_fun (gq_25 K) (pq_25 gd) (ff__law_rule_of D), b__law_rule_of := at_binds (pq_25 gd) (fb__law_rule_of (ff__law_rule_of D)),
    m__law_rule_of := at_mg (gq_25 K) (glo_x X Gn (c.fact 25 (f := .a (.glo "_law_rule_of")) rfl)),
    F__law_counted_on := at_fun (gq_26 K) (pq_26 gd) (ff__law_counted_on D), b__law_counted_on := at_binds (pq_26 gd) (fb__law_counted_on (ff__law_counted_on D)),
    m__law_counted_on := at_mg (gq_26 K) (glo_x X Gn (c.fact 26 (f := .a (.glo "_law_counted_on")) rfl)),
    F__law_times := at_fun (gq_27 K) (pq_27 gd) (ff__law_times D), b__law_times := at_binds (pq_27 gd) (fb__law_times (ff__law_times D)),
    m__law_times := at_mg (gq_27 K) (glo_x X Gn (c.fact 27 (f := .a (.glo "_law_times")) rfl)),
    F__law_rest_of := at_fun (gq_28 K) (pq_28 gd) (ff__law_rest_of D), b__law_rest_of := at_binds (pq_28 gd) (fb__law_rest_of (ff__law_rest_of D)),
    m__law_rest_of := at_mg (gq_28 K) (glo_x X Gn (c.fact 28 (f := .a (.glo "_law_rest_of")) rfl)),
    F__law_by_hand_right := at_fun (gq_29 K) (pq_29 gd) (ff__law_by_hand_right D), b__law_by_hand_right := at_binds (pq_29 gd) (fb__law_by_hand_right (ff__law_by_hand_right D)),
    m__law_by_hand_right := at_mg (gq_29 K) (glo_x X Gn (c.fact 29 (f := .a (.glo "_law_by_hand_right")) rfl)),
    F__law_right := at_fun (gq_30 K) (pq_30 gd) (ff__law_right D), b__law_right := at_binds (pq_30 gd) (fb__law_right (ff__law_right D)),
    m__law_right := at_mg (gq_30 K) (glo_x X Gn (c.fact 30 (f := .a (.glo "_law_right")) rfl)),
    F__law_five_right := at_fun (gq_31 K) (pq_31 gd) (ff__law_five_right D), b__law_five_right := at_binds (pq_31 gd) (fb__law_five_right (ff__law_five_right D)),
    m__law_five_right := at_mg (gq_31 K) (glo_x X Gn (c.fact 31 (f := .a (.glo "_law_five_right")) rfl)),
    F_law := at_fun (gq_32 K) (pq_32 gd) (ff_law D), b_law := at_binds (pq_32 gd) (fb_law (ff_law D)),
    m_law := at_mg (gq_32 K) (glo_x X Gn (c.fact 32 (f := .a (.glo "law")) rfl)),
    E_TooMany := at_errC (cq_0 K) (err_x (c.fact 33 (f := .err "TooMany" [.type "ValueError", .type "Exception", .type "BaseException", .type "object"] "ValueError.__new__" []) rfl)).1, n_TooMany := at_mg (cq_0 K) (glo_x X Gn (c.fact 34 (f := .a (.glo "TooMany")) rfl)), i_TooMany := at_init (cq_0 K) (iq_0 K) (err_x (c.fact 33 (f := .err "TooMany" [.type "ValueError", .type "Exception", .type "BaseException", .type "object"] "ValueError.__new__" []) rfl)).2.1, j_TooMany := at_type (iq_0 K) (err_x (c.fact 33 (f := .err "TooMany" [.type "ValueError", .type "Exception", .type "BaseException", .type "object"] "ValueError.__new__" []) rfl)).2.2.fn, I_TooMany := at_fun (iq_0 K) (jq_0 gd) (ff_i_TooMany D), B_TooMany := at_binds (jq_0 gd) (fb_i_TooMany (ff_i_TooMany D)), S_TooMany := at_su (cq_0 K) (err_x (c.fact 33 (f := .err "TooMany" [.type "ValueError", .type "Exception", .type "BaseException", .type "object"] "ValueError.__new__" []) rfl)).2.2.su, f_TooMany := rfl,
    x_0_0 := at_exm (cq_0 K) (cq_0 K) (exm_x (c.fact 35 (f := .a (.exm "TooMany" "TooMany" true)) rfl)), x_0_1 := at_exm (cq_0 K) (cq_1 K) (exm_x (c.fact 36 (f := .a (.exm "TooMany" "Unfit" false)) rfl)),
    E_Unfit := at_errC (cq_1 K) (err_x (c.fact 37 (f := .err "Unfit" [.type "ValueError", .type "Exception", .type "BaseException", .type "object"] "ValueError.__new__" []) rfl)).1, n_Unfit := at_mg (cq_1 K) (glo_x X Gn (c.fact 38 (f := .a (.glo "Unfit")) rfl)), i_Unfit := at_init (cq_1 K) (iq_1 K) (err_x (c.fact 37 (f := .err "Unfit" [.type "ValueError", .type "Exception", .type "BaseException", .type "object"] "ValueError.__new__" []) rfl)).2.1, j_Unfit := at_type (iq_1 K) (err_x (c.fact 37 (f := .err "Unfit" [.type "ValueError", .type "Exception", .type "BaseException", .type "object"] "ValueError.__new__" []) rfl)).2.2.fn, I_Unfit := at_fun (iq_1 K) (jq_1 gd) (ff_i_Unfit D), B_Unfit := at_binds (jq_1 gd) (fb_i_Unfit (ff_i_Unfit D)), S_Unfit := at_su (cq_1 K) (err_x (c.fact 37 (f := .err "Unfit" [.type "ValueError", .type "Exception", .type "BaseException", .type "object"] "ValueError.__new__" []) rfl)).2.2.su, f_Unfit := rfl,
    x_1_0 := at_exm (cq_1 K) (cq_0 K) (exm_x (c.fact 39 (f := .a (.exm "Unfit" "TooMany" false)) rfl)), x_1_1 := at_exm (cq_1 K) (cq_1 K) (exm_x (c.fact 40 (f := .a (.exm "Unfit" "Unfit" true)) rfl)),
    v_ValueError := vb_x (c.fact 41 (f := .vb "ValueError" "ValueError.__init__") rfl),
    z_ValueError := free_x X Gn (c.fact 42 (f := .a (.free "ValueError")) rfl),
    z_abs := free_x X Gn (c.fact 43 (f := .a (.free "abs")) rfl),
    z_all := free_x X Gn (c.fact 44 (f := .a (.free "all")) rfl),
    z_bool := free_x X Gn (c.fact 45 (f := .a (.free "bool")) rfl),
    z_dict := free_x X Gn (c.fact 46 (f := .a (.free "dict")) rfl),
    z_enumerate := free_x X Gn (c.fact 47 (f := .a (.free "enumerate")) rfl),
    z_int := free_x X Gn (c.fact 48 (f := .a (.free "int")) rfl),
    z_isinstance := free_x X Gn (c.fact 49 (f := .a (.free "isinstance")) rfl),
    z_len := free_x X Gn (c.fact 50 (f := .a (.free "len")) rfl),
    z_list := free_x X Gn (c.fact 51 (f := .a (.free "list")) rfl),
    z_range := free_x X Gn (c.fact 52 (f := .a (.free "range")) rfl),
    z_reversed := free_x X Gn (c.fact 53 (f := .a (.free "reversed")) rfl),
    z_str := free_x X Gn (c.fact 54 (f := .a (.free "str")) rfl),
    z_sum := free_x X Gn (c.fact 55 (f := .a (.free "sum")) rfl),
    z_tuple := free_x X Gn (c.fact 56 (f := .a (.free "tuple")) rfl),
    z_zip := free_x X Gn (c.fact 57 (f := .a (.free "zip")) rfl),
    c_HIGHEST := int_x X Gn (c.fact 58 (f := .a (.int "HIGHEST" 5)) rfl),
    c_WIDEST_COUNT := int_x X Gn (c.fact 59 (f := .a (.int "WIDEST_COUNT" 2000)) rfl),
    c_PARTS := con_x rfl X Gn (c.fact 60 (f := .con "PARTS" (.kt [(.kt [(.int 1), (.int 1)]), (.kt [(.int 2), (.int 0), (.int 2), (.int (-1))]), (.kt [(.int 1), (.int 2), (.int 0), (.int 2), (.int (-1)), (.int (-1))]), (.kt [(.int 1), (.int 1), (.int 1), (.int (-1)), (.int 7), (.int (-7)), (.int 1), (.int (-1)), (.int (-1)), (.int (-1)), (.int 1)]), (.kt [(.int 1), (.int 1), (.int (-1)), (.int 3), (.int (-1)), (.int 5), (.int (-2)), (.int (-5)), (.int (-1)), (.int (-3)), (.int (-1)), (.int (-1)), (.int 1), (.int 1)])])) rfl),
    c_FIRST_COUNTS := con_x rfl X Gn (c.fact 61 (f := .con "FIRST_COUNTS" (.kt [(.kt [(.int 1), (.int 2)]), (.kt [(.int 2), (.int 6), (.int 13), (.int 29)]), (.kt [(.int 3), (.int 13), (.int 22), (.int 44), (.int 90), (.int 196), (.int 406), (.int 852)]), (.kt [(.int 5), (.int 29), (.int 44), (.int 66), (.int 126), (.int 238), (.int 490), (.int 922), (.int 1714), (.int 3306), (.int 6246), (.int 12102), (.int 22994), (.int 43682)]), (.kt [(.int 8), (.int 68), (.int 90), (.int 126), (.int 178), (.int 325), (.int 584), (.int 1165), (.int 2030), (.int 3619), (.int 6080), (.int 10987), (.int 19362), (.int 35477), (.int 62360), (.int 111837), (.int 195614), (.int 350707)])])) rfl) }⟩
theorem law_all (P : Program) (w : World) (mg : Str → Option Value) (h : Heap) (K : PySem.W.Frag) (c : SaysX fxl fnl K) (X : K.In h) (Gn : h.Ns mainGlobals mg) : ∃ (fa : Addr) (fd : FuncData), mg "law" = some (.ref fa) ∧ (∀ (s : Shared) (u : Value), BindsTo s fd ⟨[u], []⟩ [("script", u)]) ∧
    ∀ base : Heap, K.In base → base.Ns mainGlobals mg → FnOk P w K mg base (L2.CX P w) 11 fa fd ["script"] (spLaw K) := by
  obtain ⟨gd, T⟩ := tx_mk c X Gn
  exact ⟨gFn K 32, gdn gd 32, T.m_law, fun s u => bind_of T.F_law s u fun _ _ _ _ _ _ => rfl, fun base _ _ => ((law_imp (ok_law T) law_true))⟩
end RE.K28
namespace RE.K28
open PySem PySem.W PySem.Calls PyProof.Rows RE
abbrev hR : OpenRow := OpenLaw.row PySem.Challenge.rw_tatamirooms_k28_whole_long_corridors_and
abbrev hq : Program := view hR.prog [42]
def hn_0 : List PySem.Str := [.ofString "__name__", .ofString "TooMany", .ofString "Unfit", .ofString "is_number", .ofString "needed", .ofString "plain_number", .ofString "need_from", .ofString "HIGHEST", .ofString "WIDEST_COUNT", .ofString "PARTS", .ofString "FIRST_COUNTS", .ofString "check_high", .ofString "check_corridor", .ofString "need_corridor", .ofString "reduced", .ofString "times", .ofString "power", .ofString "corridor_count", .ofString "corridor_rest", .ofString "corridor_rule", .ofString "_law_box", .ofString "_law_take", .ofString "_law_cells", .ofString "_law_same", .ofString "_law_over", .ofString "_law_plan", .ofString "_law_kinds_next", .ofString "_law_moved_on", .ofString "_law_lets_of", .ofString "_law_layers", .ofString "_law_many", .ofString "_law_boxed", .ofString "_law_rule_of", .ofString "_law_counted_on", .ofString "_law_times", .ofString "_law_rest_of", .ofString "_law_by_hand_right", .ofString "_law_right", .ofString "_law_five_right"]
def hn : List PySem.Str := hn_0
def asl : List Addr := [3, 6, 4, 31, 51, 61, 68, 76, 83, 89, 95, 102, 109, 116, 123, 130, 137, 142, 147, 154, 161, 168, 175, 180, 187, 192, 197, 202, 207, 214, 221, 226, 233, 238, 243, 248, 253, 260, 267, 274, 0, 30, 50, 60, 67, 75, 69, 82, 84, 85, 86, 87, 88, 90, 91, 92, 93, 94, 101, 108, 115, 122, 129, 136, 141, 146, 153, 160, 167, 174, 179, 186, 191, 196, 201, 206, 213, 220, 225, 232, 237, 242, 247, 252, 259, 266, 273, 28, 29, 32, 48, 49, 52, 55, 56, 57, 58, 59, 62, 63, 64, 65, 66, 70, 71, 72, 73, 74, 77, 78, 79, 80, 81, 96, 97, 98, 99, 100, 103, 104, 105, 106, 107, 110, 111, 112, 113, 114, 117, 118, 119, 120, 121, 124, 125, 126, 127, 128, 131, 132, 133, 134, 135, 138, 139, 140, 143, 144, 145, 148, 149, 150, 151, 152, 155, 156, 157, 158, 159, 162, 163, 164, 165, 166, 169, 170, 171, 172, 173, 176, 177, 178, 181, 182, 183, 184, 185, 188, 189, 190, 193, 194, 195, 198, 199, 200, 203, 204, 205, 208, 209, 210, 211, 212, 215, 216, 217, 218, 219, 222, 223, 224, 227, 228, 229, 230, 231, 234, 235, 236, 239, 240, 241, 244, 245, 246, 249, 250, 251, 254, 255, 256, 257, 258, 261, 262, 263, 264, 265, 268, 269, 270, 271, 272, 27, 47]
abbrev hk : Hook := hookA asl fxl fnl
abbrev hob : SharedT → AlX := obU asl fxl fnl
theorem hob_eq (s : SharedT) : hob s = hk.obs s.abs := obU_eq s
theorem run_l (w : World) : (runO hR 15000 w).map (fun x => HandSHeadRun.looksF hR.prog x.1.heap x.2.abs) = some true := by kernel_rfl
theorem run_s (w : World) : (runO hR 15000 w).map (fun x => HandSHeadRun.seenQ hq hn (importedModules hR.prog.main.body) (fun (s : Shared) => PySem.W.xlAt hq [] s && PySem.W.recOk hR.records s) x.2.abs) = some (PySem.W.openGood hq hn) := by kernel_rfl
theorem run_0 (w : World) : (runO hR 15000 w).map (fun x => obU asl fxl fnl x.2) = some (valX fnl) := by kernel_rfl
theorem hrun (w : World) : HandSHeadRun.RunEqI hR hq hk hob 15000 hn w := runEqA_of (run_l w) (run_s w) (run_0 w)
end RE.K28
open PySem PySem.W PySem.Calls PyProof.Rows
set_option maxHeartbeats 0 in
theorem PySem.Challenge.cw_tatamirooms_k28_whole_long_corridors_and_holds : PySem.Challenge.rw_tatamirooms_k28_whole_long_corridors_and.Holds := by
  w_on; o_law
  refine HandSHeadRun.head_imp (r := OpenLaw.row PySem.Challenge.rw_tatamirooms_k28_whole_long_corridors_and) (q := RE.K28.hq) (H := RE.K28.hk) (ob := RE.K28.hob) (M := 15000) (loose := RE.K28.hn) (d := HandSHeadRun.topDef (OpenLaw.row PySem.Challenge.rw_tatamirooms_k28_whole_long_corridors_and).prog 42) (kwd := []) RE.K28.hob_eq
    RE.K28.hrun (by kernel_rfl) (by kernel_rfl) (by kernel_rfl) (by rfl) (by first | assumption | decide +kernel) (by decide +kernel) ⟨rfl, rfl, rfl, rfl, rfl, by decide +kernel⟩ ?hw ?hc
  case hw => w_witness2
  case hc => exact RE.law_head (l := PySem.Challenge.rw_tatamirooms_k28_whole_long_corridors_and) (k := 11) (fx := RE.K28.fxl) (fn := RE.K28.fnl) (N := 4) rfl (by kernel_rfl) (by kernel_rfl) ⟨rfl, by decide, by decide⟩ fun w mg h K c X Gn => RE.K28.law_all _ w mg h K c X Gn
