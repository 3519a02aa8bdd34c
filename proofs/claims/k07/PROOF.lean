import PyProof.Rows.All
import Wide.All
import OpenK.AllK
import Wide.FinOn
import HandS.ForMost
import KE.KeyNested
import HandS.Flow
import HandS.Deep
import KE.DataEq
import KE.DataCmp
import HandS.TupAny
import HandS.TupMul
import HandS.Wide
import HandS.IsInst
import HandS.Text
import KE.SortData
import HandS.WordsExc
import HandS.Style
import HandS.Iter
import HandS.Zip
import HandS.Comp
import HandS.DictComp
import KE.KDictCopyH
import HandS.CallLocal
import HandS.ExcInit
import PyProof.ExcBaseAll.LookupError
import PyProof.ExcBaseAll.ValueError
import KE.KExcInit
import HandS.TryMany
import HandS.ExcField
import HandS.ExcIs
import KE.KExcIs
import HandS.Defaults
import HandS.SetFor
import HandS.Strs
import KE.KDictList
import KE.KDictZip
import HandS.HeadHook2
import HandS.NoneIn
import HandS.WideBits
import HandS.DictTup
import KE.KPairComp
import PySem.Challenge.RW_tatamirooms_k07_rooms_and_kinds_refused
set_option Elab.async false
set_option linter.all false
set_option maxRecDepth 100000
set_option maxHeartbeats 2000000
namespace RE
open PySem PySem.Spec PyProof.Rows L2

inductive D where
  | non | bl (b : Bool) | int (i : Int) | str (s : Str)
  | lst (ds : List D) | tup (ds : List D) | kt (ds : List D) | ks (ds : List D) | dK (kvs : List (Key × D)) | dT (kvs : List (List Key × D)) | fn (i : Nat) | ob (c : Nat) (fs : List (Str × D))

/-- a tuple whose object is known to have no dict: of the written part, or told when it was made -/
def KT (K : PySem.W.Frag) (A : Addr → Prop) (H : Hp) (a : Addr) (xs : List V) : Prop :=
  (∃ (o : Obj) (its : Array Value) (n : Nat), K.lookup a = some o ∧ o.cls = Value.type "tuple" ∧ o.dict = none ∧ o.data = .seq its n ∧ its.size ≤ sizeLine ∧ Vals xs its.toList) ∨
    ∃ o : Obj, H a = some (.frz o (.tup xs)) ∧ o.dict = none ∧ ¬ A a
theorem KT.sq {K : PySem.W.Frag} {A : Addr → Prop} {H : Hp} {a : Addr} {xs : List V} (h : KT K A H a xs) : SqT K H a xs := by
  rcases h with ⟨o, its, n, h1, h2, _, h3⟩ | ⟨o, h, _⟩
  · exact .inr ⟨o, its, n, h1, h2, h3⟩
  · exact .inl (.inr ⟨o, h⟩)
theorem KT.ext {K : PySem.W.Frag} {A A' : Addr → Prop} {H H' : Hp} {a : Addr} {xs : List V} (h : KT K A H a xs) (k : ∀ a o, H a = some o → ¬ A a → H' a = some o ∧ ¬ A' a) : KT K A' H' a xs := by
  rcases h with h | ⟨o, h, hd, n⟩
  · exact .inl h
  · exact .inr ⟨o, (k _ _ h n).1, hd, (k _ _ h n).2⟩

mutual
/-- a key without texts -/
def noTxt : NestedKey → Bool
  | .text _ => false
  | .tup ks => noTxts ks
  | _ => true
def noTxts : List NestedKey → Bool
  | [] => true
  | k :: ks => noTxt k && noTxts ks
end
/-- a dict whose keys are tuples of any depth -/
def NdO (a : Addr) (xs : List (NestedKey × Addr × V)) : HO := .ext fun h => (a == sysModules) = false ∧ ∃ ys : List (NestedKey × Addr × Value),
  Paired (fun (p : NestedKey × Addr × V) (q : NestedKey × Addr × Value) => p.1 = q.1 ∧ p.2.1 = q.2.1 ∧ RelV p.2.2 q.2.2) xs ys ∧ (xs.map (·.1)).Nodup ∧ noTxts (xs.map (·.1)) = true ∧
  ∃ o es ep, h.get? a = some o ∧ o.ExactDict ∧ o.data = .dict es ep ∧ ∀ w : World, es.toList = ys.map fun y => (⟨y.1.hash w, .ref y.2.1, y.2.2⟩ : DictEntry)

/-- a list of the written part -/
def KL (K : PySem.W.Frag) (a : Addr) (xs : List V) : Prop :=
  ∃ (o : Obj) (its : Array Value) (n : Nat), K.lookup a = some o ∧ o.cls = Value.type "list" ∧ o.dict = none ∧ o.data = .seq its n ∧ its.size ≤ sizeLine ∧ Vals xs its.toList

/-- the program: its written part, where its defs stand -/
structure G where
  K : PySem.W.Frag
  F : Nat → Addr
  /-- own exceptions: their classes, their fields' names -/
  C : Nat → Addr
  fld : Nat → List Str

/-- no tuple -/
def NT (o : HO) : Prop := ∀ xs, o ≠ .tup xs
/-- how v, over the heap H, stands for d; A: the addresses that may still change -/
inductive Rp (g : G) (A : Addr → Prop) (H : Hp) : V → D → Prop where
  | non : Rp g A H .non .non
  | bl (b : Bool) : Rp g A H (.bl b) (.bl b)
  | int (i : Int) : Rp g A H (.int i) (.int i)
  | str (s : Str) : Rp g A H (.str s) (.str s)
  | lst {a : Addr} {xs : List V} {ds : List D} : H a = some (.lst xs) → ¬ A a → xs.length = ds.length → (∀ (i : Nat) x d, xs[i]? = some x → ds[i]? = some d → Rp g A H x d) → Rp g A H (.ref a) (.lst ds)
  | tup {a : Addr} {xs : List V} {ds : List D} : H a = some (.tup xs) → ¬ A a → xs.length = ds.length → (∀ (i : Nat) x d, xs[i]? = some x → ds[i]? = some d → Rp g A H x d) → Rp g A H (.ref a) (.tup ds)
  | ktup {a : Addr} {xs : List V} {ds : List D} : KT g.K A H a xs → xs.length = ds.length → (∀ (i : Nat) x d, xs[i]? = some x → ds[i]? = some d → Rp g A H x d) → Rp g A H (.ref a) (.kt ds)
  | kls {a : Addr} {o : Obj} {xs : List V} {ds : List D} : H a = some (.frz o (.lst xs)) → ¬ A a → xs.length = ds.length → (∀ (i : Nat) x d, xs[i]? = some x → ds[i]? = some d → Rp g A H x d) → Rp g A H (.ref a) (.ks ds)
  | klw {a : Addr} {xs : List V} {ds : List D} : KL g.K a xs → xs.length = ds.length → (∀ (i : Nat) x d, xs[i]? = some x → ds[i]? = some d → Rp g A H x d) → Rp g A H (.ref a) (.ks ds)
  | dK {a : Addr} {xs : List (Key × V)} {ds : List (Key × D)} : Rd H a (.dK xs) → ¬ A a → xs.length = ds.length → (∀ (i : Nat) x d, xs[i]? = some x → ds[i]? = some d → x.1 = d.1) → (∀ (i : Nat) x d, xs[i]? = some x → ds[i]? = some d → Rp g A H x.2 d.2) → Rp g A H (.ref a) (.dK ds)
  | dT {a : Addr} {xs : List (List Key × V)} {ds : List (List Key × D)} : Rd H a (.dT xs) → ¬ A a → xs.length = ds.length → (∀ (i : Nat) x d, xs[i]? = some x → ds[i]? = some d → x.1 = d.1) → (∀ (i : Nat) x d, xs[i]? = some x → ds[i]? = some d → Rp g A H x.2 d.2) → Rp g A H (.ref a) (.dT ds)
  | fn (i : Nat) : Rp g A H (.ref (g.F i)) (.fn i)
  | ob {a dx : Addr} {c : Nat} {xs : List (Str × V)} {ds : List (Str × D)} : H a = some (.ins (g.C c) dx xs) → ¬ A a → xs.length = ds.length → (∀ (i : Nat) x d, xs[i]? = some x → ds[i]? = some d → x.1 = d.1) → (∀ (i : Nat) x d, xs[i]? = some x → ds[i]? = some d → Rp g A H x.2 d.2) → Rp g A H (.ref a) (.ob c ds)

/-- item by item -/
def RpA (g : G) (A : Addr → Prop) (H : Hp) (xs : List V) (ds : List D) : Prop :=
  xs.length = ds.length ∧ ∀ (i : Nat) x d, xs[i]? = some x → ds[i]? = some d → Rp g A H x d

section
variable {g : G} {A A' : Addr → Prop} {H H' : Hp}

theorem rd_ext {a : Addr} {u : HO} (h : Rd H a u) (na : ¬ A a) (k : ∀ a o, H a = some o → ¬ A a → H' a = some o ∧ ¬ A' a) : Rd H' a u ∧ ¬ A' a := by
  rcases h with h | ⟨o, h⟩
  · exact ⟨.inl (k _ _ h na).1, (k _ _ h na).2⟩
  · exact ⟨.inr ⟨o, (k _ _ h na).1⟩, (k _ _ h na).2⟩
/-- what stands is kept -/
theorem Rp.ext {v : V} {d : D} (r : Rp g A H v d) (k : ∀ a o, H a = some o → ¬ A a → H' a = some o ∧ ¬ A' a) : Rp g A' H' v d := by
  induction r with
  | non => exact .non
  | bl b => exact .bl b
  | int i => exact .int i
  | str s => exact .str s
  | lst h na hl _ ih => exact .lst (k _ _ h na).1 (k _ _ h na).2 hl fun i x d hx hd => ih i x d hx hd
  | tup h na hl _ ih => exact .tup (k _ _ h na).1 (k _ _ h na).2 hl fun i x d hx hd => ih i x d hx hd
  | ktup h hl _ ih => exact .ktup (h.ext k) hl fun i x d hx hd => ih i x d hx hd
  | kls h na hl _ ih => exact .kls (k _ _ h na).1 (k _ _ h na).2 hl fun i x d hx hd => ih i x d hx hd
  | klw h hl _ ih => exact .klw h hl fun i x d hx hd => ih i x d hx hd
  | dK h na hl hk _ ih => exact .dK (rd_ext h na k).1 (rd_ext h na k).2 hl hk fun i x d hx hd => ih i x d hx hd
  | dT h na hl hk _ ih => exact .dT (rd_ext h na k).1 (rd_ext h na k).2 hl hk fun i x d hx hd => ih i x d hx hd
  | fn i => exact .fn i
  | ob h na hl hk _ ih => exact .ob (k _ _ h na).1 (k _ _ h na).2 hl hk fun i x d hx hd => ih i x d hx hd

theorem RpA.ext {xs : List V} {ds : List D} (r : RpA g A H xs ds) (k : ∀ a o, H a = some o → ¬ A a → H' a = some o ∧ ¬ A' a) : RpA g A' H' xs ds :=
  ⟨r.1, fun i x d hx hd => (r.2 i x d hx hd).ext k⟩
theorem RpA.nil : RpA g A H [] [] := ⟨rfl, fun i x d hx => by simp at hx⟩
theorem RpA.cons {x : V} {xs : List V} {d : D} {ds : List D} (h : Rp g A H x d) (t : RpA g A H xs ds) : RpA g A H (x :: xs) (d :: ds) :=
  ⟨by simp [t.1], fun i y e hy he => by
    cases i with
    | zero =>
      have e1 : x = y := by simpa using hy
      have e2 : d = e := by simpa using he
      subst e1; subst e2; exact h
    | succ i => exact t.2 i y e (by simpa using hy) (by simpa using he)⟩
theorem RpA.uncons {x : V} {xs : List V} {d : D} {ds : List D} (h : RpA g A H (x :: xs) (d :: ds)) : Rp g A H x d ∧ RpA g A H xs ds :=
  ⟨h.2 0 x d rfl rfl, by have := h.1; simpa using this, fun i y e hy he => h.2 (i + 1) y e (by simpa using hy) (by simpa using he)⟩
theorem RpA.cases_cons {vs : List V} {d : D} {ds : List D} (h : RpA g A H vs (d :: ds)) : ∃ x xs, vs = x :: xs ∧ Rp g A H x d ∧ RpA g A H xs ds := by
  cases vs with
  | nil => have := h.1; simp at this
  | cons x xs => exact ⟨x, xs, rfl, h.uncons.1, h.uncons.2⟩
theorem RpA.cases_nil {vs : List V} (h : RpA g A H vs []) : vs = [] := by
  cases vs with
  | nil => rfl
  | cons x xs => have := h.1; simp at this
theorem RpA.append {xs ys : List V} {ds es : List D} (h : RpA g A H xs ds) (t : RpA g A H ys es) : RpA g A H (xs ++ ys) (ds ++ es) := by
  induction xs generalizing ds with
  | nil =>
    cases ds with
    | nil => exact t
    | cons d ds => have := h.1; simp at this
  | cons x xs ih =>
    cases ds with
    | nil => have := h.1; simp at this
    | cons d ds => exact RpA.cons h.uncons.1 (ih h.uncons.2)
theorem RpA.take {xs : List V} {ds : List D} (n : Nat) (h : RpA g A H xs ds) : RpA g A H (xs.take n) (ds.take n) :=
  ⟨by simp [h.1], fun i x d hx hd => by
    rw [List.getElem?_take] at hx hd
    split at hx
    · rename_i hi; rw [if_pos hi] at hd; exact h.2 i x d hx hd
    · cases hx⟩
theorem RpA.drop {xs : List V} {ds : List D} (n : Nat) (h : RpA g A H xs ds) : RpA g A H (xs.drop n) (ds.drop n) :=
  ⟨by simp [h.1], fun i x d hx hd => by
    rw [List.getElem?_drop] at hx hd
    exact h.2 _ x d hx hd⟩
theorem RpA.get {xs : List V} {ds : List D} {i : Nat} {d : D} (h : RpA g A H xs ds) (e : ds[i]? = some d) : ∃ x, xs[i]? = some x ∧ Rp g A H x d := by
  obtain ⟨hi, _⟩ := List.getElem?_eq_some_iff.mp e
  have hx : xs[i]? = some (xs[i]'(by rw [h.1]; exact hi)) := List.getElem?_eq_getElem _
  exact ⟨_, hx, h.2 i _ d hx e⟩
theorem Rp.lst' {a : Addr} {xs : List V} {ds : List D} (h : H a = some (.lst xs)) (n : ¬ A a) (r : RpA g A H xs ds) : Rp g A H (.ref a) (.lst ds) := .lst h n r.1 r.2
theorem Rp.tup' {a : Addr} {xs : List V} {ds : List D} (h : H a = some (.tup xs)) (n : ¬ A a) (r : RpA g A H xs ds) : Rp g A H (.ref a) (.tup ds) := .tup h n r.1 r.2

theorem Rp.inv_non {v : V} (r : Rp g A H v .non) : v = .non := by cases r; rfl
theorem Rp.inv_bl {v : V} {b : Bool} (r : Rp g A H v (.bl b)) : v = .bl b := by cases r; rfl
theorem Rp.inv_int {v : V} {i : Int} (r : Rp g A H v (.int i)) : v = .int i := by cases r; rfl
theorem Rp.inv_str {v : V} {s : Str} (r : Rp g A H v (.str s)) : v = .str s := by cases r; rfl
theorem Rp.inv_lst {v : V} {ds : List D} (r : Rp g A H v (.lst ds)) : ∃ a xs, v = .ref a ∧ H a = some (.lst xs) ∧ ¬ A a ∧ RpA g A H xs ds := by
  cases r with
  | lst h n hl q => exact ⟨_, _, rfl, h, n, hl, q⟩
theorem Rp.inv_tup {v : V} {ds : List D} (r : Rp g A H v (.tup ds)) : ∃ a xs, v = .ref a ∧ H a = some (.tup xs) ∧ ¬ A a ∧ RpA g A H xs ds := by
  cases r with
  | tup h n hl q => exact ⟨_, _, rfl, h, n, hl, q⟩
theorem Rp.inv_kt {v : V} {ds : List D} (r : Rp g A H v (.kt ds)) : ∃ a xs, v = .ref a ∧ KT g.K A H a xs ∧ RpA g A H xs ds := by
  cases r with
  | ktup h hl q => exact ⟨_, _, rfl, h, hl, q⟩
/-- the items of a list, a tuple -/
def seqD : D → Option (List D)
  | .lst ds => some ds
  | .tup ds => some ds
  | .kt ds => some ds
  | .ks ds => some ds
  | _ => none
theorem Rp.seq {v : V} {d : D} {ds : List D} (r : Rp g A H v d) (e : seqD d = some ds) : ∃ a xs, v = .ref a ∧ (SqL g.K H a xs ∨ SqT g.K H a xs) ∧ RpA g A H xs ds := by
  cases r with
  | lst h n hl q => cases Option.some.inj e; exact ⟨_, _, rfl, .inl (SqL.of h), hl, q⟩
  | tup h n hl q => cases Option.some.inj e; exact ⟨_, _, rfl, .inr (SqT.of h), hl, q⟩
  | ktup h hl q => cases Option.some.inj e; exact ⟨_, _, rfl, .inr h.sq, hl, q⟩
  | kls h n hl q => cases Option.some.inj e; exact ⟨_, _, rfl, .inl (.inl (.inr ⟨_, h⟩)), hl, q⟩
  | klw h hl q => cases Option.some.inj e; exact ⟨_, _, rfl, .inl (.inr h), hl, q⟩
  | _ => cases e
theorem Rp.inv_fn {v : V} {i : Nat} (r : Rp g A H v (.fn i)) : v = .ref (g.F i) := by cases r; rfl
end

inductive Sl where
  | no | d (x : D) | rf (k : Nat)
/-- rK, rT: a dict of cells; o: an instance that is being made -/
inductive Ce where
  | dead | l (ds : List D) | dK (kvs : List (Key × D)) | dT (kvs : List (List Key × D)) | dN (kvs : List (D × D)) | rK (kvs : List (Key × Nat)) | rT (kvs : List (List Key × Nat)) | o (c : Nat) (fs : List (Str × Sl))
structure S where
  sl : List Sl
  ce : List Ce
def Ce.alive : Ce → Bool
  | .dead => false
  | _ => true
/-- where a frame's cells stand; what is not to be spoken of -/
structure Rh where
  ad : List Addr
  U : Addr → Prop
/-- the addresses that may change: those of the cells that are alive -/
def Vol (ρ : Rh) (st : S) (a : Addr) : Prop := ρ.U a ∨ ∃ (k : Nat) (c : Ce), st.ce[k]? = some c ∧ c.alive = true ∧ ρ.ad[k]? = some a
/-- cells, item by item -/
def RfA (ad : List Addr) (vs : List V) (ks : List Nat) : Prop := vs.length = ks.length ∧ ∀ (i : Nat) v k, vs[i]? = some v → ks[i]? = some k → ∃ b, v = .ref b ∧ ad[k]? = some b
def SlV (g : G) (A : Addr → Prop) (ad : List Addr) (H : Hp) (v : V) : Sl → Prop
  | .no => False
  | .d x => Rp g A H v x
  | .rf k => ∃ b, v = .ref b ∧ ad[k]? = some b
def SlA (g : G) (A : Addr → Prop) (ad : List Addr) (H : Hp) (vs : List V) (ss : List Sl) : Prop := vs.length = ss.length ∧ ∀ (i : Nat) v s, vs[i]? = some v → ss[i]? = some s → SlV g A ad H v s
mutual
/-- a datum as a key -/
def nkD : D → Option NestedKey
  | .int i => some (.num i)
  | .bl b => some (.num (if b = true then 1 else 0))
  | .tup ds => match nkDs ds with
    | some ks => some (.tup ks)
    | none => none
  | .kt ds => match nkDs ds with
    | some ks => some (.tup ks)
    | none => none
  | _ => none
def nkDs : List D → Option (List NestedKey)
  | [] => some []
  | d :: ds => match nkD d, nkDs ds with
    | some k, some ks => some (k :: ks)
    | _, _ => none
end
/-- what a cell says of its object -/
def CeOk (g : G) (A : Addr → Prop) (ad : List Addr) (H : Hp) (a : Addr) : Ce → Prop
  | .rK ds => ∃ xs : List (Key × V), H a = some (.dK xs) ∧ xs.map (·.1) = ds.map (·.1) ∧ RfA ad (xs.map (·.2)) (ds.map (·.2))
  | .rT ds => ∃ xs : List (List Key × V), H a = some (.dT xs) ∧ xs.map (·.1) = ds.map (·.1) ∧ RfA ad (xs.map (·.2)) (ds.map (·.2))
  | .o c fs => ∃ (dx : Addr) (xs : List (Str × V)), H a = some (.ins (g.C c) dx xs) ∧ xs.map (·.1) = fs.map (·.1) ∧ SlA g A ad H (xs.map (·.2)) (fs.map (·.2))
  | .dead => True
  | .l ds => ∃ xs, H a = some (.lst xs) ∧ RpA g A H xs ds
  | .dK ds => ∃ xs : List (Key × V), H a = some (.dK xs) ∧ xs.map (·.1) = ds.map (·.1) ∧ RpA g A H (xs.map (·.2)) (ds.map (·.2))
  | .dT ds => ∃ xs : List (List Key × V), H a = some (.dT xs) ∧ xs.map (·.1) = ds.map (·.1) ∧ RpA g A H (xs.map (·.2)) (ds.map (·.2))
  | .dN ds => ∃ xs : List (NestedKey × Addr × V), H a = some (NdO a xs) ∧ xs.map (fun x => some x.1) = ds.map (fun d => nkD d.1) ∧ RpA g A H (xs.map fun x => V.ref x.2.1) (ds.map (·.1)) ∧ RpA g A H (xs.map (·.2.2)) (ds.map (·.2))
def SlOk (g : G) (A : Addr → Prop) (ρ : Rh) (H : Hp) (v : Option V) : Sl → Prop
  | .no => True
  | .d x => ∃ u, v = some u ∧ Rp g A H u x
  | .rf k => ∃ a, v = some (.ref a) ∧ ρ.ad[k]? = some a
/-- the cells' part of it -/
structure Cells (g : G) (ρ : Rh) (H : Hp) (st : S) : Prop where
  uok : ∀ a, ρ.U a → ∃ o, H a = some o ∧ NT o
  clen : ρ.ad.length = st.ce.length
  cell : ∀ (k : Nat) c a, st.ce[k]? = some c → ρ.ad[k]? = some a → CeOk g (Vol ρ st) ρ.ad H a c
  inj : ∀ (j k : Nat) (c c' : Ce) a, st.ce[j]? = some c → st.ce[k]? = some c' → c.alive = true → c'.alive = true → ρ.ad[j]? = some a → ρ.ad[k]? = some a → j = k
  out : ∀ (k : Nat) c a, st.ce[k]? = some c → c.alive = true → ρ.ad[k]? = some a → ¬ ρ.U a
theorem Cells.uo {g : G} {ρ : Rh} {H : Hp} {st : S} (s : Cells g ρ H st) : ∀ a, ρ.U a → ∃ o, H a = some o := fun a h => let ⟨o, e, _⟩ := s.uok a h; ⟨o, e⟩
theorem CeOk.nt {g : G} {A : Addr → Prop} {ad : List Addr} {H : Hp} {a : Addr} {c : Ce} (h : CeOk g A ad H a c) (al : c.alive = true) : ∃ o, H a = some o ∧ NT o := by
  cases c with
  | dead => cases al
  | l ds => obtain ⟨xs, e, _⟩ := h; exact ⟨_, e, fun _ z => by cases z⟩
  | dK ds => obtain ⟨xs, e, _⟩ := h; exact ⟨_, e, fun _ z => by cases z⟩
  | dT ds => obtain ⟨xs, e, _⟩ := h; exact ⟨_, e, fun _ z => by cases z⟩
  | dN ds => obtain ⟨xs, e, _⟩ := h; exact ⟨_, e, fun _ z => by unfold NdO at z; cases z⟩
  | rK ds => obtain ⟨xs, e, _⟩ := h; exact ⟨_, e, fun _ z => by cases z⟩
  | rT ds => obtain ⟨xs, e, _⟩ := h; exact ⟨_, e, fun _ z => by cases z⟩
  | o c fs => obtain ⟨dx, xs, e, _⟩ := h; exact ⟨_, e, fun _ z => by cases z⟩
structure Sim (g : G) (ρ : Rh) (σ : L2.St) (H : Hp) (st : S) : Prop extends Cells g ρ H st where
  len : σ.length = st.sl.length
  slot : ∀ (i : Nat) s v, st.sl[i]? = some s → σ[i]? = some v → SlOk g (Vol ρ st) ρ H v s
/-- from one state to a later one -/
structure Ext (ρ : Rh) (st : S) (H : Hp) (ρ' : Rh) (st' : S) (H' : Hp) : Prop where
  keep : ∀ a o, H a = some o → ¬ Vol ρ st a → H' a = some o ∧ ¬ Vol ρ' st' a
  pre : ∀ (k : Nat) a, ρ.ad[k]? = some a → ρ'.ad[k]? = some a
  same : ρ'.U = ρ.U
  un : ∀ a, ρ.U a → H' a = H a
  more : ∀ a, Vol ρ' st' a → Vol ρ st a ∨ H a = none
  mono : ∀ a, H' a = none → H a = none
theorem Ext.refl {ρ : Rh} {st : S} {H : Hp} : Ext ρ st H ρ st H := ⟨fun _ _ h n => ⟨h, n⟩, fun _ _ h => h, rfl, fun _ _ => rfl, fun _ h => .inl h, fun _ h => h⟩
theorem Ext.trans {ρ ρ1 ρ2 : Rh} {st st1 st2 : S} {H H1 H2 : Hp} (a : Ext ρ st H ρ1 st1 H1) (b : Ext ρ1 st1 H1 ρ2 st2 H2) : Ext ρ st H ρ2 st2 H2 where
  keep := fun x o h n => by
    obtain ⟨h1, n1⟩ := a.keep x o h n
    exact b.keep x o h1 n1
  pre := fun k x h => b.pre k x (a.pre k x h)
  same := b.same.trans a.same
  un := fun x h => (b.un x (by rw [a.same]; exact h)).trans (a.un x h)
  more := fun x h => by
    rcases b.more x h with h1 | h1
    · exact a.more x h1
    · exact .inr (a.mono x h1)
  mono := fun x h => a.mono x (b.mono x h)
theorem Sim.volT {g : G} {ρ : Rh} {σ : L2.St} {H : Hp} {st : S} (s : Sim g ρ σ H st) {a : Addr} (v : Vol ρ st a) : ∃ o, H a = some o ∧ NT o := by
  rcases v with v | ⟨k, c, hc, ha, hr⟩
  · exact s.uok a v
  · exact (s.cell k c a hc hr).nt ha
theorem Sim.vol {g : G} {ρ : Rh} {σ : L2.St} {H : Hp} {st : S} (s : Sim g ρ σ H st) {a : Addr} (v : Vol ρ st a) : ∃ o, H a = some o := by
  rcases v with v | ⟨k, c, hc, ha, hr⟩
  · exact s.uo a v
  obtain ⟨o, e, _⟩ := (s.cell k c a hc hr).nt ha
  exact ⟨o, e⟩
theorem Rp.go {g : G} {ρ ρ' : Rh} {st st' : S} {H H' : Hp} {v : V} {d : D} (r : Rp g (Vol ρ st) H v d) (e : Ext ρ st H ρ' st' H') : Rp g (Vol ρ' st') H' v d := r.ext e.keep
theorem RpA.go {g : G} {ρ ρ' : Rh} {st st' : S} {H H' : Hp} {v : List V} {d : List D} (r : RpA g (Vol ρ st) H v d) (e : Ext ρ st H ρ' st' H') : RpA g (Vol ρ' st') H' v d := r.ext e.keep
section
variable {g : G} {ρ : Rh} {σ : L2.St} {H : Hp} {st : S} {p : Addr} {o : HO}
theorem Ext.new (s : Sim g ρ σ H st) (hp : H p = none) : Ext ρ st H ρ st (upd H p o) where
  keep := fun a u h n => ⟨by rw [upd_ne (ne_of_none h hp)]; exact h, n⟩
  pre := fun _ _ h => h
  same := rfl
  un := fun a h => by
    obtain ⟨u, hu⟩ := s.uo a h
    exact upd_ne (ne_of_none hu hp)
  more := fun _ h => .inl h
  mono := fun a h => by
    by_cases e : a = p
    · rw [e]; exact hp
    · rw [upd_ne e] at h; exact h
theorem Sim.nvol (s : Sim g ρ σ H st) (hp : H p = none) : ¬ Vol ρ st p := fun v => by
  obtain ⟨o, h⟩ := s.vol v
  rw [hp] at h; cases h
theorem RfA.go {ad ad' : List Addr} {vs : List V} {ks : List Nat} (h : RfA ad vs ks) (pre : ∀ (k : Nat) b, ad[k]? = some b → ad'[k]? = some b) : RfA ad' vs ks :=
  ⟨h.1, fun i v k h1 h2 => let ⟨b, e, q⟩ := h.2 i v k h1 h2; ⟨b, e, pre k b q⟩⟩
theorem SlA.go {A A' : Addr → Prop} {H' : Hp} {ad ad' : List Addr} {vs : List V} {ss : List Sl} (h : SlA g A ad H vs ss) (k : ∀ a o, H a = some o → ¬ A a → H' a = some o ∧ ¬ A' a) (pre : ∀ (k : Nat) b, ad[k]? = some b → ad'[k]? = some b) : SlA g A' ad' H' vs ss :=
  ⟨h.1, fun i v s h1 h2 => by
    have q := h.2 i v s h1 h2
    cases s with
    | no => exact q
    | d x => exact Rp.ext q k
    | rf j => obtain ⟨b, e, z⟩ := q; exact ⟨b, e, pre j b z⟩⟩
theorem CeOk.ext {A A' : Addr → Prop} {ad ad' : List Addr} {H' : Hp} {a : Addr} {c : Ce} (h : CeOk g A ad H a c) (ha : H' a = H a) (k : ∀ a o, H a = some o → ¬ A a → H' a = some o ∧ ¬ A' a) (pre : ∀ (k : Nat) b, ad[k]? = some b → ad'[k]? = some b := by exact fun _ _ h => h) : CeOk g A' ad' H' a c := by
  cases c with
  | dN ds => obtain ⟨xs, e, q, r, u⟩ := h; exact ⟨xs, by rw [ha]; exact e, q, r.ext k, u.ext k⟩
  | rK ds => obtain ⟨xs, e, q, r⟩ := h; exact ⟨xs, by rw [ha]; exact e, q, r.go pre⟩
  | rT ds => obtain ⟨xs, e, q, r⟩ := h; exact ⟨xs, by rw [ha]; exact e, q, r.go pre⟩
  | o c fs => obtain ⟨dx, xs, e, q, r⟩ := h; exact ⟨dx, xs, by rw [ha]; exact e, q, r.go k pre⟩
  | dead => trivial
  | l ds => obtain ⟨xs, e, r⟩ := h; exact ⟨xs, by rw [ha]; exact e, r.ext k⟩
  | dK ds => obtain ⟨xs, e, q, r⟩ := h; exact ⟨xs, by rw [ha]; exact e, q, r.ext k⟩
  | dT ds => obtain ⟨xs, e, q, r⟩ := h; exact ⟨xs, by rw [ha]; exact e, q, r.ext k⟩
/-- a new object beside -/
theorem Cells.new (s : Cells g ρ H st) (hp : H p = none) (e : Ext ρ st H ρ st (upd H p o)) : Cells g ρ (upd H p o) st where
  uok := fun a h => by
    obtain ⟨u, hu, nt⟩ := s.uok a h
    exact ⟨u, by rw [upd_ne (ne_of_none hu hp)]; exact hu, nt⟩
  clen := s.clen
  cell := fun k c a h1 h2 => by
    have q := s.cell k c a h1 h2
    by_cases hc : c.alive = true
    · have hv : Vol ρ st a := .inr ⟨k, c, h1, hc, h2⟩
      have hs : ∃ u, H a = some u := by
        obtain ⟨u, e, _⟩ := q.nt hc
        exact ⟨u, e⟩
      obtain ⟨u, hu⟩ := hs
      exact q.ext (upd_ne (ne_of_none hu hp)) e.keep
    · cases c <;> first | trivial | exact absurd rfl hc
  inj := s.inj
  out := s.out
theorem Sim.new (s : Sim g ρ σ H st) (hp : H p = none) : Sim g ρ σ (upd H p o) st where
  toCells := s.toCells.new hp (Ext.new s hp)
  len := s.len
  slot := fun i sl v h1 h2 => by
    have q := s.slot i sl v h1 h2
    cases sl with
    | no => trivial
    | d x => obtain ⟨u, e, r⟩ := q; exact ⟨u, e, r.go (Ext.new s hp)⟩
    | rf k => exact q
end
end RE
set_option maxHeartbeats 2000000
namespace RE
open PySem PySem.Spec PyProof.Rows L2

inductive O (α : Type) where
  | ok (a : α) (st : S)
  | er (c : Nat) (vs : List D) (st : S)
  | no
/-- an answer that may lack -/
def optO {α : Type} (o : Option α) (st : S) : O α := match o with
  | some d => .ok d st
  | none => .no
def bindO {α β : Type} (o : O α) (f : α → S → O β) : O β := match o with
  | .ok a st => f a st
  | .er c vs st => .er c vs st
  | .no => .no
/-- what is wanted of an error: its class, its fields, the state -/
abbrev EK := Nat → List D → Rh → S → Hp → Prop
def OutC {α : Type} (ER : EK) (ρ : Rh) (st : S) (H : Hp) (o : O α) (k : α → S → Rh → Hp → Prop) : Prop := match o with
  | .ok a st' => ∀ ρ' H', Ext ρ st H ρ' st' H' → k a st' ρ' H'
  | .er c vs st' => ∀ ρ' H', Ext ρ st H ρ' st' H' → ER c vs ρ' st' H'
  | .no => False
section
variable {ER : EK} {ρ ρ1 : Rh} {st st1 : S} {H H1 : Hp} {α β : Type}
theorem OutC.mono {o : O α} {k k' : α → S → Rh → Hp → Prop} (h : OutC ER ρ st H o k) (hk : ∀ a st' ρ' H', Ext ρ st H ρ' st' H' → k a st' ρ' H' → k' a st' ρ' H') : OutC ER ρ st H o k' := by
  cases o with
  | ok a st' => exact fun ρ' H' e => hk a st' ρ' H' e (h ρ' H' e)
  | er c vs st' => exact h
  | no => exact h
theorem OutC.later {o : O α} {k : α → S → Rh → Hp → Prop} (h : OutC ER ρ st H o k) (e : Ext ρ st H ρ1 st1 H1) : OutC ER ρ1 st1 H1 o k := by
  cases o with
  | ok a st' => exact fun ρ' H' e' => h ρ' H' (e.trans e')
  | er c vs st' => exact fun ρ' H' e' => h ρ' H' (e.trans e')
  | no => exact h
theorem OutC.bind {o : O α} {f : α → S → O β} {k : β → S → Rh → Hp → Prop} (h : OutC ER ρ st H (bindO o f) k) : OutC ER ρ st H o fun a st' ρ' H' => OutC ER ρ' st' H' (f a st') k := by
  cases o with
  | ok a st' => exact fun ρ' H' e => OutC.later h e
  | er c vs st' => exact h
  | no => exact h
end
abbrev M := S → O D
abbrev MT := S → O Bool
abbrev MA := S → O (List D)
section
variable (g : G) (ER : EK)
def tM (m : M) : TE := fun σ H Q => ∃ ρ st, Sim g ρ σ H st ∧ OutC ER ρ st H (m st) fun d st' ρ' H' => Sim g ρ' σ H' st' → ∀ v, Rp g (Vol ρ' st') H' v d → Q v H'
def tMT (m : MT) : TT := fun σ H Q => ∃ ρ st, Sim g ρ σ H st ∧ OutC ER ρ st H (m st) fun b st' ρ' H' => Sim g ρ' σ H' st' → Q b H'
def tMA (m : MA) : TA := fun σ H Q => ∃ ρ st, Sim g ρ σ H st ∧ OutC ER ρ st H (m st) fun ds st' ρ' H' => Sim g ρ' σ H' st' → ∀ vs, RpA g (Vol ρ' st') H' vs ds → Q vs H'
end
theorem PEi {X : Cx} {e : Expr} {t t' : TE} (p : PE X e t) (h : ∀ σ H Q, t' σ H Q → t σ H Q) : PE X e t' := ⟨fun pq s σ H Q I q => p.run pq s σ H Q I (h _ _ _ q)⟩
theorem PTi {X : Cx} {e : Expr} {t t' : TT} (p : PT X e t) (h : ∀ σ H Q, t' σ H Q → t σ H Q) : PT X e t' := ⟨fun pq s σ H Q I q => p.run pq s σ H Q I (h _ _ _ q)⟩
theorem PWi {X : Cx} {e : Expr} {t t' : TT} (p : PW X e t) (h : ∀ σ H Q, t' σ H Q → t σ H Q) : PW X e t' := ⟨fun wh pq s σ H Q I q => p.run wh pq s σ H Q I (h _ _ _ q)⟩
theorem PAi {X : Cx} {e : List Expr} {t t' : TA} (p : PA X e t) (h : ∀ σ H Q, t' σ H Q → t σ H Q) : PA X e t' := ⟨fun pos pq s σ H Q I q => p.run pos pq s σ H Q I (h _ _ _ q)⟩

/-- a name that holds a datum -/
def mVar (i : Nat) : M := fun st => match st.sl[i]? with
  | some (.d x) => .ok x st
  | _ => .no
def mC (d : D) : M := fun st => .ok d st
section
variable {X : Cx} {g : G} {ER : EK} {pos : Pos}
theorem pe_mVar {i : Nat} {x : Str} (p : PE X (.Name x pos) (tVar i)) : PE X (.Name x pos) (tM g ER (mVar i)) := by
  refine PEi p fun σ H Q h => ?_
  obtain ⟨ρ, st, s, h⟩ := h
  unfold mVar at h
  split at h
  · rename_i y e
    obtain ⟨hi, _⟩ := List.getElem?_eq_some_iff.mp e
    have hs : i < σ.length := by rw [s.len]; exact hi
    have q := s.slot i _ _ e (List.getElem?_eq_getElem hs)
    obtain ⟨u, hu, r⟩ := q
    exact ⟨u, by rw [List.getElem?_eq_getElem hs, hu], h ρ H Ext.refl s u r⟩
  · exact h.elim
theorem pe_mC {e : Expr} {v : V} {d : D} (p : PE X e (tC v)) (r : ∀ A H, Rp g A H v d) : PE X e (tM g ER (mC d)) := by
  refine PEi p fun σ H Q h => ?_
  obtain ⟨ρ, st, s, h⟩ := h
  exact h ρ H Ext.refl s v (r _ _)
theorem pe_mInt {i : Int} {j} : PE X (.Constant (.int i) j pos) (tM g ER (mC (.int i))) := pe_mC pe_int fun _ _ => .int i
theorem pe_mBl {b : Bool} {j} : PE X (.Constant (.bool b) j pos) (tM g ER (mC (.bl b))) := pe_mC pe_bl fun _ _ => .bl b
theorem pe_mNon {j} : PE X (.Constant .none j pos) (tM g ER (mC .non)) := pe_mC pe_non fun _ _ => .non
theorem pe_mStr {s : Str} {j} : PE X (.Constant (.str s) j pos) (tM g ER (mC (.str s))) := pe_mC pe_str fun _ _ => .str s

def mBin (f : D → D → Option D) (ma mb : M) : M := fun st => bindO (ma st) fun a st1 => bindO (mb st1) fun b st2 => optO (f a b) st2
def ROp (g : G) (r : R2) (f : D → D → Option D) : Prop := ∀ (ρ : Rh) (σ : L2.St) (st : S) (H : Hp) (x y : V) (dx dy d : D) (Q : VK), f dx dy = some d → Sim g ρ σ H st → Rp g (Vol ρ st) H x dx → Rp g (Vol ρ st) H y dy →
  (∀ ρ' H' v, Ext ρ st H ρ' st H' → Sim g ρ' σ H' st → Rp g (Vol ρ' st) H' v d → Q v H') → r x y H Q
theorem tM_bin {r : R2} {f : D → D → Option D} {ma mb : M} (hf : ROp g r f) {σ : L2.St} {H : Hp} {Q : VK} (h : tM g ER (mBin f ma mb) σ H Q) : tOp r (tM g ER ma) (tM g ER mb) σ H Q := by
  obtain ⟨ρ, st, s, h⟩ := h
  refine ⟨ρ, st, s, (OutC.bind h).mono fun a st1 ρ1 H1 _ h1 s1 x rx => ?_⟩
  refine ⟨ρ1, st1, s1, (OutC.bind h1).mono fun b st2 ρ2 H2 e2 h2 s2 y ry => ?_⟩
  cases e : f a b with
  | none => rw [e] at h2; exact h2.elim
  | some d =>
    rw [e] at h2
    exact hf ρ2 σ st2 H2 x y a b d Q e s2 (rx.go e2) ry fun ρ' H' v e' s' r' => h2 ρ' H' e' s' v r'
theorem pe_mBin {op : Operator} {a b : Expr} {r : R2} {f : D → D → Option D} {ma mb : M} (ho : OpR X (binaryOp op) r) (hf : ROp g r f) (ha : PE X a (tM g ER ma)) (hb : PE X b (tM g ER mb)) : PE X (.BinOp a op b pos) (tM g ER (mBin f ma mb)) :=
  PEi (pe_op ho ha hb) fun _ _ _ h => tM_bin hf h
theorem pe_mCmp {op : CmpOp} {a b : Expr} {r : R2} {f : D → D → Option D} {ma mb : M} (ho : OpR X (compareOp op) r) (hf : ROp g r f) (ha : PE X a (tM g ER ma)) (hb : PE X b (tM g ER mb)) (hm : behindInMarks op b = false) : PE X (.Compare a [op] [b] pos) (tM g ER (mBin f ma mb)) :=
  PEi (pe_cmpR ho ha hb hm) fun _ _ _ h => tM_bin hf h
/-- a value that is a truth value, as a test -/
def mB (m : M) : MT := fun st => bindO (m st) fun d st' => match d with
  | .bl b => .ok b st'
  | _ => .no
theorem tMT_B {m : M} {σ : L2.St} {H : Hp} {Q : Bool → Hp → Prop} (h : tMT g ER (mB m) σ H Q) : tTest (tM g ER m) σ H Q := by
  obtain ⟨ρ, st, s, h⟩ := h
  refine ⟨ρ, st, s, (OutC.bind h).mono fun a st1 ρ1 H1 _ h1 s1 x rx => ?_⟩
  split at h1
  · exact ⟨_, rx.inv_bl, h1 ρ1 H1 Ext.refl s1⟩
  · exact h1.elim
theorem pt_mCmp {op : CmpOp} {a b : Expr} {r : R2} {f : D → D → Option D} {ma mb : M} (ho : OpR X (compareOp op) r) (hf : ROp g r f) (ha : PE X a (tM g ER ma)) (hb : PE X b (tM g ER mb)) (hm : behindInMarks op b = false) : PT X (.Compare a [op] [b] pos) (tMT g ER (mB (mBin f ma mb))) := by
  refine PTi (pt_cmpR ho ha hb hm) fun σ H Q h => ?_
  obtain ⟨ρ, st, s, h⟩ := tMT_B h
  exact tM_bin hf ⟨ρ, st, s, h⟩

def truD : D → Option Bool
  | .non => some false
  | .bl b => some b
  | .int i => some (i != 0)
  | .str s => if s.length ≤ sizeLine then some ((s.length : Int) != 0) else none
  | .lst ds => some (!ds.isEmpty)
  | .tup ds => some (!ds.isEmpty)
  | .kt ds => some (!ds.isEmpty)
  | _ => none
theorem empty_of {α β : Type} {xs : List α} {ds : List β} (h : xs.length = ds.length) : xs.isEmpty = ds.isEmpty := by
  cases xs <;> cases ds <;> simp_all
theorem truD_ok {A : Addr → Prop} {H : Hp} {v : V} {d : D} {k : Bool} (r : Rp g A H v d) (h : truD d = some k) : TruV g.K v H k := by
  cases r with
  | non => exact (Option.some.inj h).symm
  | bl b => exact (Option.some.inj h).symm
  | int i => exact (Option.some.inj h).symm
  | str s =>
    have h' : (if s.length ≤ sizeLine then some ((s.length : Int) != 0) else none) = some k := h
    by_cases hz : s.length ≤ sizeLine
    · rw [if_pos hz] at h'
      exact ⟨hz, (Option.some.inj h').symm⟩
    · rw [if_neg hz] at h'
      cases h'
  | lst h1 _ hl _ => exact .inl ⟨_, SqL.of h1, by rw [empty_of hl]; exact (Option.some.inj h).symm⟩
  | tup h1 _ hl _ => exact .inr (.inl ⟨_, SqT.of h1, by rw [empty_of hl]; exact (Option.some.inj h).symm⟩)
  | ktup h1 hl _ => exact .inr (.inl ⟨_, h1.sq, by rw [empty_of hl]; exact (Option.some.inj h).symm⟩)
  | kls h1 _ hl _ => cases h
  | klw h1 hl _ => cases h
  | dK _ _ _ _ _ => cases h
  | dT _ _ _ _ _ => cases h
  | fn i => cases h
  | ob _ _ _ _ _ => cases h
def mTru (m : M) : MT := fun st => bindO (m st) fun d st' => match truD d with
  | some b => .ok b st'
  | none => .no
theorem pt_mTru {a : Expr} {m : M} (hk : X.K = g.K) (ha : PE X a (tM g ER m)) (he : ∀ whole, isTrue a X.env whole = (do let v ← whole; standAt a.pos; holding [v] (truthy v))) : PT X a (tMT g ER (mTru m)) := by
  refine PTi (pt_truth ha he) fun σ H Q h => ?_
  obtain ⟨ρ, st, s, h⟩ := h
  refine ⟨ρ, st, s, (OutC.bind h).mono fun d st1 ρ1 H1 _ h1 s1 x rx => ?_⟩
  split at h1
  · rename_i b e
    exact ⟨b, by rw [hk]; exact truD_ok rx e, h1 ρ1 H1 Ext.refl s1⟩
  · exact h1.elim
def mNotT (m : MT) : MT := fun st => bindO (m st) fun b st' => .ok (!b) st'
theorem pt_mNot {a : Expr} {m : MT} (ha : PT X a (tMT g ER m)) : PT X (.UnaryOp .Not a pos) (tMT g ER (mNotT m)) := by
  refine PTi (pt_not ha) fun σ H Q h => ?_
  obtain ⟨ρ, st, s, h⟩ := h
  exact ⟨ρ, st, s, (OutC.bind h).mono fun b st1 ρ1 H1 _ h1 s1 => h1 ρ1 H1 Ext.refl s1⟩
def mAndT (m n : MT) : MT := fun st => bindO (m st) fun b st' => if b = true then n st' else .ok false st'
def mOrT (m n : MT) : MT := fun st => bindO (m st) fun b st' => if b = true then .ok true st' else n st'
theorem pw_mAnd {a b : Expr} {rest : List Expr} {m n : MT} (ha : PT X a (tMT g ER m)) (hb : PW X (.BoolOp .And (b :: rest) pos) (tMT g ER n)) : PW X (.BoolOp .And (a :: b :: rest) pos) (tMT g ER (mAndT m n)) := by
  refine PWi (pw_and ha hb) fun σ H Q h => ?_
  obtain ⟨ρ, st, s, h⟩ := h
  refine ⟨ρ, st, s, (OutC.bind h).mono fun b st1 ρ1 H1 _ h1 s1 => ?_⟩
  cases b with
  | true => exact ⟨ρ1, st1, s1, h1⟩
  | false => exact h1 ρ1 H1 Ext.refl s1
theorem pw_mOr {a b : Expr} {rest : List Expr} {m n : MT} (ha : PT X a (tMT g ER m)) (hb : PW X (.BoolOp .Or (b :: rest) pos) (tMT g ER n)) : PW X (.BoolOp .Or (a :: b :: rest) pos) (tMT g ER (mOrT m n)) := by
  refine PWi (pw_or ha hb) fun σ H Q h => ?_
  obtain ⟨ρ, st, s, h⟩ := h
  refine ⟨ρ, st, s, (OutC.bind h).mono fun b st1 ρ1 H1 _ h1 s1 => ?_⟩
  cases b with
  | false => exact ⟨ρ1, st1, s1, h1⟩
  | true => exact h1 ρ1 H1 Ext.refl s1
/-- and, or, not as values, by truth -/
def mAnd (m n : M) : M := fun st => bindO (m st) fun d st' => match truD d with
  | some true => n st'
  | some false => .ok d st'
  | none => .no
def mOr (m n : M) : M := fun st => bindO (m st) fun d st' => match truD d with
  | some true => .ok d st'
  | some false => n st'
  | none => .no
def mNot (m : M) : M := fun st => bindO (m st) fun d st' => match truD d with
  | some b => .ok (.bl (!b)) st'
  | none => .no
theorem pe_mAnd {a b : Expr} {rest : List Expr} {m n : M} (hk : X.K = g.K) (ha : PE X a (tM g ER m)) (hb : PE X (.BoolOp .And (b :: rest) pos) (tM g ER n)) : PE X (.BoolOp .And (a :: b :: rest) pos) (tM g ER (mAnd m n)) := by
  refine PEi (pe_andT ha hb) fun σ H Q h => ?_
  obtain ⟨ρ, st, s, h⟩ := h
  refine ⟨ρ, st, s, (OutC.bind h).mono fun d st1 ρ1 H1 _ h1 s1 x rx => ?_⟩
  split at h1
  · rename_i e
    exact ⟨true, by rw [hk]; exact truD_ok rx e, iteT ⟨ρ1, st1, s1, h1⟩⟩
  · rename_i e
    exact ⟨false, by rw [hk]; exact truD_ok rx e, iteF (h1 ρ1 H1 Ext.refl s1 x rx)⟩
  · exact h1.elim
theorem pe_mOr {a b : Expr} {rest : List Expr} {m n : M} (hk : X.K = g.K) (ha : PE X a (tM g ER m)) (hb : PE X (.BoolOp .Or (b :: rest) pos) (tM g ER n)) : PE X (.BoolOp .Or (a :: b :: rest) pos) (tM g ER (mOr m n)) := by
  refine PEi (pe_orT ha hb) fun σ H Q h => ?_
  obtain ⟨ρ, st, s, h⟩ := h
  refine ⟨ρ, st, s, (OutC.bind h).mono fun d st1 ρ1 H1 _ h1 s1 x rx => ?_⟩
  split at h1
  · rename_i e
    exact ⟨true, by rw [hk]; exact truD_ok rx e, iteT (h1 ρ1 H1 Ext.refl s1 x rx)⟩
  · rename_i e
    exact ⟨false, by rw [hk]; exact truD_ok rx e, iteF ⟨ρ1, st1, s1, h1⟩⟩
  · exact h1.elim
theorem pe_mNot {a : Expr} {m : M} (hk : X.K = g.K) (ha : PE X a (tM g ER m)) : PE X (.UnaryOp .Not a pos) (tM g ER (mNot m)) := by
  refine PEi (pe_notT ha) fun σ H Q h => ?_
  obtain ⟨ρ, st, s, h⟩ := h
  refine ⟨ρ, st, s, (OutC.bind h).mono fun d st1 ρ1 H1 _ h1 s1 x rx => ?_⟩
  split at h1
  · rename_i b e
    exact ⟨b, by rw [hk]; exact truD_ok rx e, h1 ρ1 H1 Ext.refl s1 _ (.bl _)⟩
  · exact h1.elim
def mIfE (t : MT) (m n : M) : M := fun st => bindO (t st) fun b st' => if b = true then m st' else n st'
theorem pe_mIfE {c a b : Expr} {t : MT} {m n : M} (hc : PT X c (tMT g ER t)) (ha : PE X a (tM g ER m)) (hb : PE X b (tM g ER n)) : PE X (.IfExp c a b pos) (tM g ER (mIfE t m n)) := by
  refine PEi (pe_ifExp hc ha hb) fun σ H Q h => ?_
  obtain ⟨ρ, st, s, h⟩ := h
  refine ⟨ρ, st, s, (OutC.bind h).mono fun b st1 ρ1 H1 _ h1 s1 => ?_⟩
  cases b with
  | true => exact ⟨ρ1, st1, s1, h1⟩
  | false => exact ⟨ρ1, st1, s1, h1⟩
def mNeg (m : M) : M := fun st => bindO (m st) fun d st' => match d with
  | .int i => .ok (.int (-i)) st'
  | _ => .no
theorem pe_mNeg {a : Expr} {m : M} (ha : PE X a (tM g ER m)) : PE X (.UnaryOp .USub a pos) (tM g ER (mNeg m)) := by
  refine PEi (pe_un un_neg ha) fun σ H Q h => ?_
  obtain ⟨ρ, st, s, h⟩ := h
  refine ⟨ρ, st, s, (OutC.bind h).mono fun d st1 ρ1 H1 _ h1 s1 x rx => ?_⟩
  split at h1
  · rename_i i
    exact ⟨i, rx.inv_int, h1 ρ1 H1 Ext.refl s1 _ (.int _)⟩
  · exact h1.elim

def mNil : MA := fun st => .ok [] st
def mCons (m : M) (ms : MA) : MA := fun st => bindO (m st) fun d st1 => bindO (ms st1) fun ds st2 => .ok (d :: ds) st2
theorem pa_mNil : PA X [] (tMA g ER mNil) := PAi pa_nil fun σ H Q h => by
  obtain ⟨ρ, st, s, h⟩ := h
  exact h ρ H Ext.refl s [] RpA.nil
theorem pa_mCons {e : Expr} {es : List Expr} {m : M} {ms : MA} (ha : PE X e (tM g ER m)) (hr : PA X es (tMA g ER ms)) (hs : starEach (e :: es) X.env = (false, eval e X.env) :: starEach es X.env := by rfl) : PA X (e :: es) (tMA g ER (mCons m ms)) := by
  refine PAi (pa_cons ha hr hs) fun σ H Q h => ?_
  obtain ⟨ρ, st, s, h⟩ := h
  refine ⟨ρ, st, s, (OutC.bind h).mono fun d st1 ρ1 H1 _ h1 s1 x rx => ?_⟩
  refine ⟨ρ1, st1, s1, (OutC.bind h1).mono fun ds st2 ρ2 H2 e2 h2 s2 xs rs => ?_⟩
  exact h2 ρ2 H2 Ext.refl s2 (x :: xs) (RpA.cons (rx.go e2) rs)
def mTup (ms : MA) : M := fun st => bindO (ms st) fun ds st1 => if ds.length ≤ 1000 then .ok (.tup ds) st1 else .no
def mLst (ms : MA) : M := fun st => bindO (ms st) fun ds st1 => if ds.length ≤ 1000 then .ok (.lst ds) st1 else .no
theorem pe_mTup {es : List Expr} {ms : MA} {x1} (h : PA X es (tMA g ER ms)) : PE X (.Tuple es x1 pos) (tM g ER (mTup ms)) := by
  refine PEi (pe_tup h) fun σ H Q h => ?_
  obtain ⟨ρ, st, s, h⟩ := h
  refine ⟨ρ, st, s, (OutC.bind h).mono fun ds st1 ρ1 H1 _ h1 s1 xs rs => ?_⟩
  split at h1
  · rename_i hz
    refine ⟨by rw [rs.1]; exact Nat.le_of_lt (small1000 hz), fun p hp => ?_⟩
    exact h1 ρ1 _ (Ext.new s1 hp) (s1.new hp) _ (Rp.tup' upd_same (s1.nvol hp) (rs.go (Ext.new s1 hp)))
  · exact h1.elim
theorem pe_mLst {es : List Expr} {ms : MA} (h : PA X es (tMA g ER ms)) : PE X (.List es pos) (tM g ER (mLst ms)) := by
  refine PEi (pe_lst h) fun σ H Q h => ?_
  obtain ⟨ρ, st, s, h⟩ := h
  refine ⟨ρ, st, s, (OutC.bind h).mono fun ds st1 ρ1 H1 _ h1 s1 xs rs => ?_⟩
  split at h1
  · rename_i hz
    refine ⟨by rw [rs.1]; exact Nat.le_of_lt (small1000 hz), fun p hp => ?_⟩
    exact h1 ρ1 _ (Ext.new s1 hp) (s1.new hp) _ (Rp.lst' upd_same (s1.nvol hp) (rs.go (Ext.new s1 hp)))
  · exact h1.elim
end
end RE
set_option maxHeartbeats 2000000
namespace RE
open PySem PySem.Spec PyProof.Rows L2

def mapO {α β : Type} (f : α → Option β) : List α → Option (List β)
  | [] => some []
  | x :: xs => match f x with
    | some y => match mapO f xs with
      | some ys => some (y :: ys)
      | none => none
    | none => none
theorem mapO_cons {α β : Type} {f : α → Option β} {x : α} {xs : List α} {zs : List β} (h : mapO f (x :: xs) = some zs) : ∃ y ys, f x = some y ∧ mapO f xs = some ys ∧ zs = y :: ys := by
  unfold mapO at h
  cases e : f x with
  | none => (rw [e] at h; cases h)
  | some y =>
    rw [e] at h
    cases e2 : mapO f xs with
    | none => rw [e2] at h; cases h
    | some ys => rw [e2] at h; exact ⟨y, ys, rfl, rfl, (Option.some.inj h).symm⟩
/-- as data, nested at most n deep -/
def toP : Nat → D → Option PyData
  | _, .non => some .none
  | _, .bl b => some (.bool b)
  | _, .int i => some (.int i)
  | _, .str s => some (.str s)
  | n + 1, .lst ds => (mapO (toP n) ds).map .list
  | n + 1, .tup ds => (mapO (toP n) ds).map .tuple
  | n + 1, .kt ds => (mapO (toP n) ds).map .tuple
  | _, _ => none
section
variable {g : G} {A : Addr → Prop} {H : Hp}
theorem toP_ok : ∀ (n : Nat) (d : D) (p : PyData) (v : V), toP n d = some p → Rp g A H v d → Dp g.K H v p ∧ p.plain = true ∧ p.depth ≤ n := by
  intro n
  induction n with
  | zero =>
    intro d p v h r
    cases d <;> first
      | (simp only [toP] at h; cases r; cases (Option.some.inj h); exact ⟨by constructor, rfl, Nat.le_refl _⟩)
      | (simp only [toP] at h; cases h)
  | succ n ih =>
    have all : ∀ (ds : List D) (ps : List PyData) (vs : List V), mapO (toP n) ds = some ps → RpA g A H vs ds → DpAll g.K H vs ps ∧ PyData.plainAll ps = true ∧ PyData.depthAll ps ≤ n := by
      intro ds
      induction ds with
      | nil =>
        intro ps vs h r
        cases (Option.some.inj h)
        rw [r.cases_nil]
        exact ⟨.nil, rfl, Nat.zero_le _⟩
      | cons d ds ihd =>
        intro ps vs h r
        obtain ⟨x, xs, rfl, r1, r2⟩ := r.cases_cons
        obtain ⟨y, ys, e1, e2, rfl⟩ := mapO_cons h
        obtain ⟨a1, a2, a3⟩ := ih d y x e1 r1
        obtain ⟨b1, b2, b3⟩ := ihd ys xs e2 r2
        exact ⟨.cons a1 b1, by simp only [PyData.plainAll, a2, b2]; rfl, by simp only [PyData.depthAll]; omega⟩
    intro d p v h r
    cases d with
    | non => simp only [toP] at h; cases r; cases (Option.some.inj h); exact ⟨.non, rfl, Nat.zero_le _⟩
    | bl b => simp only [toP] at h; cases r; cases (Option.some.inj h); exact ⟨.bl b, rfl, Nat.zero_le _⟩
    | int i => simp only [toP] at h; cases r; cases (Option.some.inj h); exact ⟨.int i, rfl, Nat.zero_le _⟩
    | str s => simp only [toP] at h; cases r; cases (Option.some.inj h); exact ⟨.str s, rfl, Nat.zero_le _⟩
    | lst ds =>
      simp only [toP] at h
      obtain ⟨ps, e, rfl⟩ := Option.map_eq_some_iff.mp h
      obtain ⟨a, xs, rfl, ha, _, rs⟩ := r.inv_lst
      obtain ⟨q1, q2, q3⟩ := all ds ps xs e rs
      exact ⟨.lst (SqL.of ha) q1, by simp only [PyData.plain, q2], by simp only [PyData.depth]; omega⟩
    | tup ds =>
      simp only [toP] at h
      obtain ⟨ps, e, rfl⟩ := Option.map_eq_some_iff.mp h
      obtain ⟨a, xs, rfl, ha, _, rs⟩ := r.inv_tup
      obtain ⟨q1, q2, q3⟩ := all ds ps xs e rs
      exact ⟨.tup (SqT.of ha) q1, by simp only [PyData.plain, q2], by simp only [PyData.depth]; omega⟩
    | kt ds =>
      simp only [toP] at h
      obtain ⟨ps, e, rfl⟩ := Option.map_eq_some_iff.mp h
      obtain ⟨a, xs, rfl, ha, rs⟩ := r.inv_kt
      obtain ⟨q1, q2, q3⟩ := all ds ps xs e rs
      exact ⟨.tup ha.sq q1, by simp only [PyData.plain, q2], by simp only [PyData.depth]; omega⟩
    | ks _ => simp only [toP] at h; cases h
    | dK _ => simp only [toP] at h; cases h
    | dT _ => simp only [toP] at h; cases h
    | fn _ => simp only [toP] at h; cases h
    | ob _ _ => simp only [toP] at h; cases h
end

section
variable {X : Cx}
theorem OpR.or {f : Value → Value → Sem Value} {r1 r2 : R2} (h1 : OpR X f r1) (h2 : OpR X f r2) : OpR X f (fun x y H Q => r1 x y H Q ∨ r2 x y H Q) := by
  intro pq s σ H x y v u Q I rx ry h
  rcases h with h | h
  · exact h1 pq s σ H x y v u Q I rx ry h
  · exact h2 pq s σ H x y v u Q I rx ry h
def rData (K : PySem.W.Frag) (ok : PyData → PyData → Prop) (f : PyData → PyData → Bool) : R2 := fun x y H Q => ∃ d e, Dp K H x d ∧ Dp K H y e ∧ d.plain = true ∧ e.plain = true ∧ d.depth ≤ 30 ∧ e.depth ≤ 30 ∧ ok d e ∧ Q (.bl (f d e)) H
theorem op_eqP (hu : X.A.units + 64 < cLine) : OpR X (compareOp .Eq) (rData X.K (fun _ _ => True) PyData.eqv) := by
  intro pq s σ H x y v u Q I rx ry h
  obtain ⟨d, e, hd, he, sd, se, d1, d2, _, q⟩ := h
  obtain ⟨la, r1⟩ := Dp.reads I d x v hd rx
  obtain ⟨lb, r2⟩ := Dp.reads I e y u he ry
  exact SeqAt.eq_plain r1 r2 sd se (by have := Nat.min_le_left d.depth e.depth; omega) ⟨.bl _, H, I, rfl, q⟩
theorem op_neP (hu : X.A.units + 64 < cLine) : OpR X (compareOp .NotEq) (rData X.K (fun _ _ => True) fun d e => !PyData.eqv d e) := by
  intro pq s σ H x y v u Q I rx ry h
  obtain ⟨d, e, hd, he, sd, se, d1, d2, _, q⟩ := h
  obtain ⟨la, r1⟩ := Dp.reads I d x v hd rx
  obtain ⟨lb, r2⟩ := Dp.reads I e y u he ry
  exact SeqAt.ne_plain r1 r2 sd se (by have := Nat.min_le_left d.depth e.depth; omega) ⟨.bl _, H, I, rfl, q⟩
def okLt (d e : PyData) : Prop := PySem.W.alike d e = true ∧ d ≠ .none
theorem op_ltP (hu : X.A.units + 64 < cLine) : OpR X (compareOp .Lt) (rData X.K okLt PySem.W.dataLt) := by
  intro pq s σ H x y v u Q I rx ry h
  obtain ⟨d, e, hd, he, sd, se, d1, d2, ⟨a1, a2⟩, q⟩ := h
  obtain ⟨la, r1⟩ := Dp.reads I d x v hd rx
  obtain ⟨lb, r2⟩ := Dp.reads I e y u he ry
  exact PySem.W.lt_data r1 r2 a1 a2 (by have := Nat.min_le_left d.depth e.depth; omega) ⟨.bl _, H, I, rfl, q⟩
theorem op_gtP (hu : X.A.units + 64 < cLine) : OpR X (compareOp .Gt) (rData X.K okLt fun d e => PySem.W.dataLt e d) := by
  intro pq s σ H x y v u Q I rx ry h
  obtain ⟨d, e, hd, he, sd, se, d1, d2, ⟨a1, a2⟩, q⟩ := h
  obtain ⟨la, r1⟩ := Dp.reads I d x v hd rx
  obtain ⟨lb, r2⟩ := Dp.reads I e y u he ry
  exact PySem.W.gt_data r1 r2 a1 a2 (by have := Nat.min_le_left d.depth e.depth; omega) ⟨.bl _, H, I, rfl, q⟩
theorem op_leP (hu : X.A.units + 64 < cLine) : OpR X (compareOp .LtE) (rData X.K okLt fun d e => !PySem.W.dataLt e d) := by
  intro pq s σ H x y v u Q I rx ry h
  obtain ⟨d, e, hd, he, sd, se, d1, d2, ⟨a1, a2⟩, q⟩ := h
  obtain ⟨la, r1⟩ := Dp.reads I d x v hd rx
  obtain ⟨lb, r2⟩ := Dp.reads I e y u he ry
  exact PySem.W.le_data r1 r2 a1 a2 (by have := Nat.min_le_left d.depth e.depth; omega) ⟨.bl _, H, I, rfl, q⟩
theorem op_geP (hu : X.A.units + 64 < cLine) : OpR X (compareOp .GtE) (rData X.K okLt fun d e => !PySem.W.dataLt d e) := by
  intro pq s σ H x y v u Q I rx ry h
  obtain ⟨d, e, hd, he, sd, se, d1, d2, ⟨a1, a2⟩, q⟩ := h
  obtain ⟨la, r1⟩ := Dp.reads I d x v hd rx
  obtain ⟨lb, r2⟩ := Dp.reads I e y u he ry
  exact PySem.W.ge_data r1 r2 a1 a2 (by have := Nat.min_le_left d.depth e.depth; omega) ⟨.bl _, H, I, rfl, q⟩
def rInP (K : PySem.W.Frag) (neg : Bool) : R2 := fun x y H Q => ∃ d ds, Dp K H x d ∧ (Dp K H y (.list ds) ∨ Dp K H y (.tuple ds)) ∧ d.plain = true ∧ PyData.plainAll ds = true ∧ d.depth ≤ 30 ∧ PyData.depthAll ds ≤ 30 ∧ Q (.bl (Bool.xor neg (ds.any fun z => PyData.eqv z d))) H
theorem op_inP (hu : X.A.units + 64 < cLine) : OpR X (compareOp .In) (rInP X.K false) := by
  intro pq s σ H x y v u Q I rx ry h
  obtain ⟨d, ds, hd, he, sd, se, d1, d2, q⟩ := h
  rw [Bool.false_xor] at q
  obtain ⟨la, r1⟩ := Dp.reads I d x v hd rx
  have hm : X.A.units + 1 + min (PyData.depthAll ds) d.depth < cLine := by have := Nat.min_le_left (PyData.depthAll ds) d.depth; omega
  rcases he with he | he
  · obtain ⟨lb, r2⟩ := Dp.reads I _ y u he ry
    exact SeqAt.in_list_data r2 r1 se sd hm ⟨.bl _, H, I, rfl, q⟩
  · obtain ⟨lb, r2⟩ := Dp.reads I _ y u he ry
    exact SeqAt.in_tuple_data r2 r1 se sd hm ⟨.bl _, H, I, rfl, q⟩
theorem op_notInP (hu : X.A.units + 64 < cLine) : OpR X (compareOp .NotIn) (rInP X.K true) := by
  intro pq s σ H x y v u Q I rx ry h
  obtain ⟨d, ds, hd, he, sd, se, d1, d2, q⟩ := h
  rw [Bool.true_xor] at q
  obtain ⟨la, r1⟩ := Dp.reads I d x v hd rx
  have hm : X.A.units + 1 + min (PyData.depthAll ds) d.depth < cLine := by have := Nat.min_le_left (PyData.depthAll ds) d.depth; omega
  rcases he with he | he
  · obtain ⟨lb, r2⟩ := Dp.reads I _ y u he ry
    exact SeqAt.notIn_list_data r2 r1 se sd hm ⟨.bl _, H, I, rfl, q⟩
  · obtain ⟨lb, r2⟩ := Dp.reads I _ y u he ry
    exact SeqAt.notIn_tuple_data r2 r1 se sd hm ⟨.bl _, H, I, rfl, q⟩
/-- k in d, d a dict -/
def rInDc (neg : Bool) : R2 := fun x y H Q => ∃ a o, y = .ref a ∧ DGet H a x o ∧ Q (.bl (Bool.xor neg o.isSome)) H
theorem op_inDc (hu : X.A.units + 1 < cLine) : OpR X (compareOp .In) (rInDc false) := by
  intro pq s σ H x y v u Q I rx ry h
  obtain ⟨a, o, rfl, gd, q⟩ := h
  rw [Bool.false_xor] at q
  cases ry
  exact d_in hu I gd rx fun s3 I3 => ⟨.bl o.isSome, H, I3, rfl, q⟩
theorem op_notInDc (hu : X.A.units + 1 < cLine) : OpR X (compareOp .NotIn) (rInDc true) := by
  intro pq s σ H x y v u Q I rx ry h
  obtain ⟨a, o, rfl, gd, q⟩ := h
  rw [Bool.true_xor] at q
  cases ry
  exact d_notIn hu I gd rx fun s3 I3 => ⟨.bl (!o.isSome), H, I3, rfl, q⟩
end
end RE
set_option maxHeartbeats 2000000
namespace RE
open PySem PySem.Spec PyProof.Rows L2
section
variable {g : G} {ρ : Rh} {σ : L2.St} {st : S} {H : Hp} {Q : VK} {d : D}
/-- what is wanted behind a new list, a new tuple -/
theorem fresh_lst {xs : List V} {ds : List D} (s : Sim g ρ σ H st) (r : RpA g (Vol ρ st) H xs ds) (k : ∀ ρ' H' v, Ext ρ st H ρ' st H' → Sim g ρ' σ H' st → Rp g (Vol ρ' st) H' v (.lst ds) → Q v H') : ∀ p, H p = none → Q (.ref p) (upd H p (.lst xs)) := fun p hp =>
  k ρ _ _ (Ext.new s hp) (s.new hp) (Rp.lst' upd_same (s.nvol hp) (r.go (Ext.new s hp)))
theorem fresh_tup {xs : List V} {ds : List D} (s : Sim g ρ σ H st) (r : RpA g (Vol ρ st) H xs ds) (k : ∀ ρ' H' v, Ext ρ st H ρ' st H' → Sim g ρ' σ H' st → Rp g (Vol ρ' st) H' v (.tup ds) → Q v H') : ∀ p, H p = none → Q (.ref p) (upd H p (.tup xs)) := fun p hp =>
  k ρ _ _ (Ext.new s hp) (s.new hp) (Rp.tup' upd_same (s.nvol hp) (r.go (Ext.new s hp)))
end
def cmpD (ok : PyData → PyData → Bool) (f : PyData → PyData → Bool) (a b : D) : Option D := match toP 20 a, toP 20 b with
  | some p, some q => if ok p q = true then some (.bl (f p q)) else none
  | _, _ => none
theorem ROp.data {g : G} {okP : PyData → PyData → Prop} {ok f : PyData → PyData → Bool} (h : ∀ p q, ok p q = true → okP p q) : ROp g (rData g.K okP f) (cmpD ok f) := by
  intro ρ σ st H x y dx dy d Q e s rx ry k
  unfold cmpD at e
  split at e
  · rename_i p q e1 e2
    split at e
    · rename_i ho
      obtain ⟨a1, a2, a3⟩ := toP_ok 20 dx p x e1 rx
      obtain ⟨b1, b2, b3⟩ := toP_ok 20 dy q y e2 ry
      exact ⟨p, q, a1, b1, a2, b2, by omega, by omega, h p q ho, k ρ H _ Ext.refl s (by rw [← Option.some.inj e]; exact .bl _)⟩
    · cases e
  · cases e
def anyOk (_ _ : PyData) : Bool := true
def ltOk (p q : PyData) : Bool := PySem.W.alike p q && (match p with | .none => false | _ => true)
theorem ltOk_ok (p q : PyData) (h : ltOk p q = true) : okLt p q := by
  unfold ltOk at h
  obtain ⟨h1, h2⟩ := Bool.and_eq_true_iff.mp h
  exact ⟨h1, fun e => by rw [e] at h2; cases h2⟩
def eqD : D → D → Option D := cmpD anyOk PyData.eqv
def neD : D → D → Option D := cmpD anyOk fun p q => !PyData.eqv p q
/-- ints quickly, else data -/
def ordD (fi : Int → Int → Bool) (f : PyData → PyData → Bool) (a b : D) : Option D := match a, b with
  | .int i, .int j => some (.bl (fi i j))
  | _, _ => cmpD ltOk f a b
def ltD : D → D → Option D := ordD (fun i j => decide (i < j)) PySem.W.dataLt
def leD : D → D → Option D := ordD (fun i j => decide (i ≤ j)) fun p q => !PySem.W.dataLt q p
def gtD : D → D → Option D := ordD (fun i j => decide (j < i)) fun p q => PySem.W.dataLt q p
def geD : D → D → Option D := ordD (fun i j => decide (j ≤ i)) fun p q => !PySem.W.dataLt p q
theorem ROp.ord {g : G} {fi : Int → Int → Bool} {f : PyData → PyData → Bool} : ROp g (fun x y H Q => rI0 (fun i j => .bl (fi i j)) x y H Q ∨ rData g.K okLt f x y H Q) (ordD fi f) := by
  intro ρ σ st H x y dx dy d Q e s rx ry k
  unfold ordD at e
  split at e
  · rename_i i j
    exact .inl ⟨i, j, rx.inv_int, ry.inv_int, k ρ H _ Ext.refl s (by rw [← Option.some.inj e]; exact .bl _)⟩
  · exact .inr (ROp.data ltOk_ok ρ σ st H x y dx dy d Q e s rx ry k)
section
variable {X : Cx} {g : G} {ER : EK} {pos : Pos} {a b : Expr} {ma mb : M}
theorem rop_eq : ROp g (rData g.K (fun _ _ => True) PyData.eqv) eqD := ROp.data fun _ _ _ => trivial
theorem rop_ne : ROp g (rData g.K (fun _ _ => True) fun d e => !PyData.eqv d e) neD := ROp.data fun _ _ _ => trivial
/-- is None, is not None -/
def nonD : D → Bool
  | .non => true
  | _ => false
def isND (neg : Bool) (a b : D) : Option D := match b with
  | .non => some (.bl (Bool.xor neg (nonD a)))
  | _ => none
theorem Rp.non_iff {A : Addr → Prop} {H : Hp} {v : V} {d : D} (r : Rp g A H v d) : decide (v = .non) = nonD d := by
  cases r <;> simp [nonD]
theorem rop_isN : ROp g (fun x y H Q => y = .non ∧ Q (.bl (decide (x = .non))) H) (isND false) := by
  intro ρ σ st H x y dx dy d Q e s rx ry k
  unfold isND at e
  split at e
  · refine ⟨ry.inv_non, k ρ H _ Ext.refl s ?_⟩
    rw [← Option.some.inj e, rx.non_iff, Bool.false_xor]
    exact .bl _
  · cases e
theorem rop_notN : ROp g (fun x y H Q => y = .non ∧ Q (.bl (!decide (x = .non))) H) (isND true) := by
  intro ρ σ st H x y dx dy d Q e s rx ry k
  unfold isND at e
  split at e
  · refine ⟨ry.inv_non, k ρ H _ Ext.refl s ?_⟩
    rw [← Option.some.inj e, rx.non_iff, Bool.true_xor]
    exact .bl _
  · cases e
end
def keyD : D → Option Key
  | .int i => some (.inl i)
  | .str s => some (.inr s)
  | _ => none
def keysD : D → Option (List Key)
  | .tup ds => mapO keyD ds
  | _ => none
def valD {κ α : Type} [DecidableEq κ] : List (κ × α) → κ → Option α
  | [], _ => none
  | (x, v) :: r, k => if x = k then some v else valD r k
theorem keyD_ok {g : G} {A : Addr → Prop} {H : Hp} {v : V} {d : D} {k : Key} (r : Rp g A H v d) (e : keyD d = some k) : v = kV k := by
  cases r with
  | int i => cases Option.some.inj e; rfl
  | str s => cases Option.some.inj e; rfl
  | _ => cases e
theorem keysD_all {g : G} {A : Addr → Prop} {H : Hp} : ∀ {ds : List D} {vs : List V} {ks : List Key}, RpA g A H vs ds → mapO keyD ds = some ks → vs = ks.map kV
  | [], vs, ks, r, e => by
    cases Option.some.inj e
    exact r.cases_nil
  | d :: ds, vs, ks, r, e => by
    obtain ⟨x, xs, rfl, r1, r2⟩ := r.cases_cons
    obtain ⟨y, ys, e1, e2, rfl⟩ := mapO_cons e
    rw [keyD_ok r1 e1, keysD_all r2 e2]
    rfl
theorem keysD_ok {g : G} {A : Addr → Prop} {H : Hp} {v : V} {d : D} {ks : List Key} (r : Rp g A H v d) (e : keysD d = some ks) : ∃ b, v = .ref b ∧ H b = some (.tup (ks.map kV)) := by
  cases d with
  | tup ds =>
    obtain ⟨b, xs, rfl, hb, _, rs⟩ := r.inv_tup
    exact ⟨b, rfl, by rw [hb, keysD_all rs e]⟩
  | _ => cases e
theorem valD_ok {κ : Type} [DecidableEq κ] {g : G} {A : Addr → Prop} {H : Hp} (k : κ) : ∀ {ds : List (κ × D)} {xs : List (κ × V)}, xs.map (·.1) = ds.map (·.1) → RpA g A H (xs.map (·.2)) (ds.map (·.2)) →
    (valD ds k = none ∧ valV xs k = none) ∨ ∃ d v, valD ds k = some d ∧ valV xs k = some v ∧ Rp g A H v d
  | [], [], _, _ => .inl ⟨rfl, rfl⟩
  | [], x :: xs, e, _ => by simp at e
  | d :: ds, [], e, _ => by simp at e
  | (kd, d) :: ds, (kx, x) :: xs, e, r => by
    simp only [List.cons.injEq, List.map_cons] at e
    obtain ⟨e1, e2⟩ := e
    have e1 : kx = kd := e1
    subst e1
    have r' := RpA.uncons r
    by_cases h : kx = k
    · exact .inr ⟨d, x, by simp [valD, h], valV_pos (p := (kx, x)) h, r'.1⟩
    · have e3 : valD ((kx, d) :: ds) k = valD ds k := by simp [valD, h]
      rw [e3, valV_neg (p := (kx, x)) h]
      exact valD_ok k e2 r'.2
theorem keys_of {κ : Type} {xs : List (κ × V)} {ds : List (κ × D)} (hl : xs.length = ds.length) (h : ∀ (i : Nat) x d, xs[i]? = some x → ds[i]? = some d → x.1 = d.1) : xs.map (·.1) = ds.map (·.1) := by
  apply List.ext_getElem?
  intro i
  rw [List.getElem?_map]
  rw [List.getElem?_map]
  by_cases hi : i < xs.length
  · have h1 : xs[i]? = some xs[i] := List.getElem?_eq_getElem hi
    have h2 : ds[i]? = some (ds[i]'(by omega)) := List.getElem?_eq_getElem _
    rw [h1, h2]
    exact congrArg some (h i _ _ h1 h2)
  · rw [List.getElem?_eq_none (by omega), List.getElem?_eq_none (by omega)]
    rfl
theorem vals_of {κ : Type} {g : G} {A : Addr → Prop} {H : Hp} {xs : List (κ × V)} {ds : List (κ × D)} (hl : xs.length = ds.length) (h : ∀ (i : Nat) x d, xs[i]? = some x → ds[i]? = some d → Rp g A H x.2 d.2) : RpA g A H (xs.map (·.2)) (ds.map (·.2)) := by
  refine ⟨by simp [hl], fun i x d hx hd => ?_⟩
  rw [List.getElem?_map] at hx hd
  obtain ⟨y, hy, rfl⟩ := Option.map_eq_some_iff.mp hx
  obtain ⟨z, hz, rfl⟩ := Option.map_eq_some_iff.mp hd
  exact h i y z hy hz
theorem Rp.inv_dK {g : G} {A : Addr → Prop} {H : Hp} {v : V} {ds : List (Key × D)} (r : Rp g A H v (.dK ds)) : ∃ a xs, v = .ref a ∧ Rd H a (.dK xs) ∧ ¬ A a ∧ xs.map (·.1) = ds.map (·.1) ∧ RpA g A H (xs.map (·.2)) (ds.map (·.2)) := by
  cases r with
  | dK h n hl hk q => exact ⟨_, _, rfl, h, n, keys_of hl hk, vals_of hl q⟩
theorem Rp.inv_dT {g : G} {A : Addr → Prop} {H : Hp} {v : V} {ds : List (List Key × D)} (r : Rp g A H v (.dT ds)) : ∃ a xs, v = .ref a ∧ Rd H a (.dT xs) ∧ ¬ A a ∧ xs.map (·.1) = ds.map (·.1) ∧ RpA g A H (xs.map (·.2)) (ds.map (·.2)) := by
  cases r with
  | dT h n hl hk q => exact ⟨_, _, rfl, h, n, keys_of hl hk, vals_of hl q⟩
/-- what a dict holds under d -/
def getD (c d : D) : Option (Option D) := match c with
  | .dK kvs => match keyD d with
    | some k => some (valD kvs k)
    | none => none
  | .dT kvs => match keysD d with
    | some k => some (valD kvs k)
    | none => none
  | _ => none
theorem getD_ok {g : G} {A : Addr → Prop} {H : Hp} {vc v : V} {c d : D} {o : Option D} (rc : Rp g A H vc c) (r : Rp g A H v d) (e : getD c d = some o) : ∃ a ov, vc = .ref a ∧ DGet H a v ov ∧ ((o = none ∧ ov = none) ∨ ∃ x y, o = some x ∧ ov = some y ∧ Rp g A H y x) := by
  unfold getD at e
  cases c with
  | dK kvs =>
    obtain ⟨a, xs, rfl, ha, _, ek, rv⟩ := rc.inv_dK
    cases e1 : keyD d with
    | none => simp only [e1] at e; cases e
    | some k =>
      simp only [e1] at e
      cases Option.some.inj e
      have ev := keyD_ok r e1
      subst ev
      refine ⟨a, valV xs k, rfl, .inl ⟨xs, k, ha, rfl, rfl⟩, ?_⟩
      rcases valD_ok k ek rv with ⟨h1, h2⟩ | ⟨x, y, h1, h2, h3⟩
      · exact .inl ⟨h1, h2⟩
      · exact .inr ⟨x, y, h1, h2, h3⟩
  | dT kvs =>
    obtain ⟨a, xs, rfl, ha, _, ek, rv⟩ := rc.inv_dT
    cases e1 : keysD d with
    | none => simp only [e1] at e; cases e
    | some k =>
      simp only [e1] at e
      cases Option.some.inj e
      obtain ⟨b, rfl, hb⟩ := keysD_ok r e1
      refine ⟨a, valV xs k, rfl, .inr ⟨xs, k, b, ha, rfl, hb, rfl⟩, ?_⟩
      rcases valD_ok k ek rv with ⟨h1, h2⟩ | ⟨x, y, h1, h2, h3⟩
      · exact .inl ⟨h1, h2⟩
      · exact .inr ⟨x, y, h1, h2, h3⟩
  | _ => cases e
def memD (a : D) (ds : List D) : Option Bool := match toP 20 a, mapO (toP 20) ds with
  | some p, some ps => some (ps.any fun z => PyData.eqv z p)
  | _, _ => none
def inD (neg : Bool) (a b : D) : Option D := match seqD b with
  | some ds => match memD a ds with
    | some k => some (.bl (Bool.xor neg k))
    | none => none
  | none => match getD b a with
    | some o => some (.bl (Bool.xor neg o.isSome))
    | none => none
theorem toP_all {g : G} {A : Addr → Prop} {H : Hp} {n : Nat} : ∀ {ds : List D} {ps : List PyData} {vs : List V}, mapO (toP n) ds = some ps → RpA g A H vs ds → DpAll g.K H vs ps ∧ PyData.plainAll ps = true ∧ PyData.depthAll ps ≤ n
  | [], ps, vs, h, r => by
    cases (Option.some.inj h)
    rw [r.cases_nil]
    exact ⟨.nil, rfl, Nat.zero_le _⟩
  | d :: ds, ps, vs, h, r => by
    obtain ⟨x, xs, rfl, r1, r2⟩ := r.cases_cons
    obtain ⟨y, ys, e1, e2, rfl⟩ := mapO_cons h
    obtain ⟨a1, a2, a3⟩ := toP_ok n d y x e1 r1
    obtain ⟨b1, b2, b3⟩ := toP_all e2 r2
    exact ⟨.cons a1 b1, by simp only [PyData.plainAll, a2, b2]; rfl, by simp only [PyData.depthAll]; omega⟩
theorem rop_in {g : G} (neg : Bool) : ROp g (fun x y H Q => rInP g.K neg x y H Q ∨ rInDc neg x y H Q) (inD neg) := by
  intro ρ σ st H x y dx dy d Q e s rx ry k
  unfold inD at e
  cases e1 : seqD dy with
  | some ds =>
    simp only [e1] at e
    obtain ⟨a, ys, rfl, hy, rs⟩ := ry.seq e1
    unfold memD at e
    cases e2 : toP 20 dx with
    | none => simp only [e2] at e; cases e
    | some p =>
      cases e3 : mapO (toP 20) ds with
      | none => simp only [e2, e3] at e; cases e
      | some ps =>
        simp only [e2, e3] at e
        obtain ⟨a1, a2, a3⟩ := toP_ok 20 dx p x e2 rx
        obtain ⟨b1, b2, b3⟩ := toP_all e3 rs
        refine .inl ⟨p, ps, a1, ?_, a2, b2, by omega, by omega, k ρ H _ Ext.refl s (by rw [← Option.some.inj e]; exact .bl _)⟩
        rcases hy with hy | hy
        · exact .inl (.lst hy b1)
        · exact .inr (.tup hy b1)
  | none =>
    simp only [e1] at e
    cases e2 : getD dy dx with
    | none => simp only [e2] at e; cases e
    | some o =>
      simp only [e2] at e
      obtain ⟨a, ov, rfl, gd, h⟩ := getD_ok ry rx e2
      refine .inr ⟨a, ov, rfl, gd, k ρ H _ Ext.refl s ?_⟩
      have eo : ov.isSome = o.isSome := by
        rcases h with ⟨h1, h2⟩ | ⟨_, _, h1, h2, _⟩ <;> rw [h1, h2] <;> rfl
      rw [← Option.some.inj e, eo]
      exact .bl _
end RE
set_option maxHeartbeats 2000000
namespace RE
open PySem PySem.Spec PyProof.Rows L2
abbrev lim : Nat := 100000
theorem lim_ok {n : Nat} (h : n ≤ lim) : n ≤ sizeLine := Nat.le_trans h (by rw [sizeLine_eq]; decide)
def addD (a b : D) : Option D := match a, b with
  | .int i, .int j => some (.int (i + j))
  | .lst ds, .lst es => if ds.length + es.length ≤ lim then some (.lst (ds ++ es)) else none
  | .str s, .str t => if s.length + t.length ≤ lim then some (.str (s ++ t)) else none
  | .tup ds, .tup es => if ds.length + es.length ≤ lim then some (.tup (ds ++ es)) else none
  | _, _ => none
def rAddU (K : PySem.W.Frag) : R2 := fun x y H Q => rI0 (fun i j => .int (i + j)) x y H Q ∨ (rCat x y H Q ∨ ((∃ i j, x = .str i ∧ y = .str j ∧ i.length + j.length ≤ sizeLine ∧ Q (.str (i ++ j)) H) ∨ rCatA K x y H Q))
theorem op_addU {X : Cx} : OpR X (binaryOp .Add) (rAddU X.K) := OpR.or op_add (OpR.or op_cat (OpR.or op_add_str op_catA))
theorem nil_of {xs : List V} {ds : List D} (h : xs.length = ds.length) : xs = [] ↔ ds = [] := by
  cases xs <;> cases ds <;> simp_all
theorem rop_add {g : G} : ROp g (rAddU g.K) addD := by
  intro ρ σ st H x y dx dy d Q e s rx ry k
  unfold addD at e
  split at e
  · rename_i i j
    exact .inl ⟨i, j, rx.inv_int, ry.inv_int, k ρ H _ Ext.refl s (by rw [← Option.some.inj e]; exact .int _)⟩
  · rename_i ds es
    split at e
    · rename_i hz
      cases Option.some.inj e
      obtain ⟨a, xs, rfl, ha, _, ra⟩ := rx.inv_lst
      obtain ⟨b, ys, rfl, hb, _, rb⟩ := ry.inv_lst
      exact .inr (.inl ⟨a, b, xs, ys, rfl, rfl, ha, hb, lim_ok (by rw [ra.1, rb.1]; exact hz), fresh_lst s (ra.append rb) k⟩)
    · cases e
  · rename_i s1 s2
    split at e
    · rename_i hz
      exact .inr (.inr (.inl ⟨s1, s2, rx.inv_str, ry.inv_str, lim_ok hz, k ρ H _ Ext.refl s (by rw [← Option.some.inj e]; exact .str _)⟩))
    · cases e
  · rename_i ds es
    split at e
    · rename_i hz
      cases Option.some.inj e
      obtain ⟨a, xs, rfl, ha, na, ra⟩ := rx.inv_tup
      obtain ⟨b, ys, rfl, hb, nb, rb⟩ := ry.inv_tup
      refine .inr (.inr (.inr ⟨a, b, xs, ys, rfl, rfl, SqT.of ha, SqT.of hb, lim_ok (by rw [ra.1, rb.1]; exact hz), fun h => ?_, fun _ h => ?_, fun _ _ => fresh_tup s (ra.append rb) k⟩))
      · rw [(nil_of ra.1).mp h] at k
        exact k ρ H _ Ext.refl s (Rp.tup' hb nb rb)
      · rw [(nil_of rb.1).mp h, List.append_nil] at k
        exact k ρ H _ Ext.refl s (Rp.tup' ha na ra)
    · cases e
  · cases e
def subD (a b : D) : Option D := match a, b with
  | .int i, .int j => some (.int (i - j))
  | _, _ => none
theorem rop_sub {g : G} : ROp g (rI0 fun i j => .int (i - j)) subD := by
  intro ρ σ st H x y dx dy d Q e s rx ry k
  unfold subD at e
  split at e
  · rename_i i j
    exact ⟨i, j, rx.inv_int, ry.inv_int, k ρ H _ Ext.refl s (by rw [← Option.some.inj e]; exact .int _)⟩
  · cases e
def smallI (i : Int) : Bool := decide (-18446744073709551616 < i) && decide (i < 18446744073709551616)
theorem smallI_ok {i : Int} (h : smallI i = true) : -(2 ^ 64) < i ∧ i < 2 ^ 64 := by
  unfold smallI at h
  obtain ⟨h1, h2⟩ := Bool.and_eq_true_iff.mp h
  exact ⟨by have := of_decide_eq_true h1; omega, by have := of_decide_eq_true h2; omega⟩
def mulD (a b : D) : Option D := match a, b with
  | .int i, .int j => if smallI j = true then some (.int (i * j)) else none
  | .lst ds, .int k => if 0 ≤ k ∧ k ≤ 1000 ∧ ds.length ≤ 100 then some (.lst (List.replicate k.toNat ds).flatten) else none
  | .tup ds, .int k => if 2 ≤ k ∧ k ≤ 1000 ∧ ds.length ≤ 100 ∧ ds.isEmpty = false then some (.tup (List.replicate k.toNat ds).flatten) else none
  | _, _ => none
def rMulU (K : PySem.W.Frag) : R2 := fun x y H Q => rI CMul (fun i j => .int (i * j)) x y H Q ∨ (rRep x y H Q ∨ rRepT K x y H Q)
theorem op_mulU {X : Cx} : OpR X (binaryOp .Mult) (rMulU X.K) := OpR.or op_mul (OpR.or op_rep op_repT)
theorem RpA.rep {g : G} {A : Addr → Prop} {H : Hp} {xs : List V} {ds : List D} (r : RpA g A H xs ds) : ∀ n : Nat, RpA g A H (List.replicate n xs).flatten (List.replicate n ds).flatten
  | 0 => RpA.nil
  | n + 1 => by
    rw [List.replicate_succ, List.flatten_cons, List.replicate_succ, List.flatten_cons]
    exact r.append (r.rep n)
theorem rop_mul {g : G} : ROp g (rMulU g.K) mulD := by
  intro ρ σ st H x y dx dy d Q e s rx ry k
  unfold mulD at e
  split at e
  · rename_i i j
    split at e
    · rename_i hz
      exact .inl ⟨i, j, rx.inv_int, ry.inv_int, .inr (smallI_ok hz), k ρ H _ Ext.refl s (by rw [← Option.some.inj e]; exact .int _)⟩
    · cases e
  · rename_i ds j
    split at e
    · rename_i hz
      obtain ⟨h1, h2, h3⟩ := hz
      cases Option.some.inj e
      obtain ⟨a, xs, rfl, ha, _, ra⟩ := rx.inv_lst
      refine .inr (.inl ⟨a, j, xs, rfl, ry.inv_int, ha, by omega, by omega, ?_, fresh_lst s (ra.rep _) k⟩)
      rw [ra.1]
      have q : ds.length * j.toNat ≤ 100 * 1000 := Nat.mul_le_mul h3 (by omega)
      exact lim_ok (by omega)
    · cases e
  · rename_i ds j
    split at e
    · rename_i hz
      obtain ⟨h1, h2, h3, h4⟩ := hz
      cases Option.some.inj e
      obtain ⟨a, xs, rfl, ha, _, ra⟩ := rx.inv_tup
      refine .inr (.inr ⟨a, j, xs, rfl, ry.inv_int, SqT.of ha, fun z => ?_, h1, h2, by rw [ra.1]; omega, fresh_tup s (ra.rep _) k⟩)
      rw [(nil_of ra.1).mp z] at h4
      cases h4
    · cases e
  · cases e
def modD (a b : D) : Option D := match a, b with
  | .int i, .int j => if 0 < j then some (.int (i % j)) else none
  | _, _ => none
theorem rop_mod {g : G} : ROp g (rI (fun _ j => 0 < j) fun i j => .int (i % j)) modD := by
  intro ρ σ st H x y dx dy d Q e s rx ry k
  unfold modD at e
  split at e
  · rename_i i j
    split at e
    · rename_i hz
      exact ⟨i, j, rx.inv_int, ry.inv_int, hz, k ρ H _ Ext.refl s (by rw [← Option.some.inj e]; exact .int _)⟩
    · cases e
  · cases e
def divD (a b : D) : Option D := match a, b with
  | .int i, .int j => if 0 < j ∧ j < 1073741824 then some (.int (i / j)) else none
  | _, _ => none
theorem rop_div {g : G} : ROp g (rI CDiv fun i j => .int (i / j)) divD := by
  intro ρ σ st H x y dx dy d Q e s rx ry k
  unfold divD at e
  split at e
  · rename_i i j
    split at e
    · rename_i hz
      exact ⟨i, j, rx.inv_int, ry.inv_int, hz, k ρ H _ Ext.refl s (by rw [← Option.some.inj e]; exact .int _)⟩
    · cases e
  · cases e
def atD (ds : List D) (i : Int) : Option D := match ixN ds.length i with
  | some j => ds[j]?
  | none => none
theorem atD_ok {g : G} {A : Addr → Prop} {H : Hp} {xs : List V} {ds : List D} {i : Int} {d : D} (r : RpA g A H xs ds) (e : atD ds i = some d) : ∃ x, atI xs i = some x ∧ Rp g A H x d := by
  unfold atD at e
  unfold atI
  rw [r.1]
  split at e
  · rename_i j ej
    obtain ⟨x, hx, rx⟩ := r.get e
    exact ⟨x, by rw [ej]; exact hx, rx⟩
  · cases e
def ixI (ds : List D) : D → Option D
  | .int i => atD ds i
  | _ => none
def ixG (a b : D) : Option D := match getD a b with
  | some (some d) => some d
  | _ => none
def ixD (a b : D) : Option D := match seqD a with
  | some ds => ixI ds b
  | none => ixG a b
theorem ixD_seq {a b : D} {ds : List D} (e : seqD a = some ds) : ixD a b = ixI ds b := by unfold ixD; rw [e]
theorem ixD_dict {a b : D} (e : seqD a = none) : ixD a b = ixG a b := by unfold ixD; rw [e]
theorem PE.or {X : Cx} {e : Expr} {t u : TE} (p : PE X e t) (q : PE X e u) : PE X e (fun σ H Q => t σ H Q ∨ u σ H Q) := ⟨fun pq s σ H Q I h => h.elim (p.run pq s σ H Q I) (q.run pq s σ H Q I)⟩
theorem PT.or {X : Cx} {e : Expr} {t u : TT} (p : PT X e t) (q : PT X e u) : PT X e (fun σ H Q => t σ H Q ∨ u σ H Q) := ⟨fun pq s σ H Q I h => h.elim (p.run pq s σ H Q I) (q.run pq s σ H Q I)⟩
section
variable {X : Cx} {g : G} {ER : EK} {pos : Pos} {a b : Expr} {ma mb : M}
theorem pe_mIx (hk : X.K = g.K) (hu : X.A.units + 1 < cLine) (ha : PE X a (tM g ER ma)) (hb : PE X b (tM g ER mb)) (hs : PlainIx b) (hn : NoSl b) : PE X (.Subscript a b pos) (tM g ER (mBin ixD ma mb)) := by
  refine PEi (PE.or (pe_ix ix_seq ha hb hs) (pe_dget hu ha hb hn)) fun σ H Q h => ?_
  obtain ⟨ρ, st, s, h⟩ := h
  have hq := h
  unfold mBin at hq
  by_cases hd : ∃ da st1 db st2, ma st = .ok da st1 ∧ mb st1 = .ok db st2 ∧ seqD da = none
  · obtain ⟨da, st1, db, st2, e1, e2, e3⟩ := hd
    refine .inr ⟨ρ, st, s, ?_⟩
    rw [e1] at hq ⊢
    intro ρ1 H1 x1 s1 x rx
    refine ⟨ρ1, st1, s1, ?_⟩
    have hq := OutC.later hq x1
    have hq : OutC ER ρ1 st1 H1 (bindO (mb st1) fun b st2 => optO (ixD da b) st2) _ := hq
    rw [e2] at hq ⊢
    intro ρ2 H2 x2 s2 y ry
    have hq := OutC.later hq x2
    have hq : OutC ER ρ2 st2 H2 (optO (ixD da db) st2) _ := hq
    have hq : OutC ER ρ2 st2 H2 (optO (ixD da db) st2) _ := hq
    rw [ixD_dict e3] at hq
    unfold ixG at hq
    cases eg : getD da db with
    | none => rw [eg] at hq; exact hq.elim
    | some o =>
      rw [eg] at hq
      obtain ⟨c, ov, rfl, gd, hh⟩ := getD_ok (rx.go x2) ry eg
      rcases hh with ⟨z, _⟩ | ⟨d2, v2, z1, z2, rr⟩
      · subst z
        exact hq.elim
      · subst z1
        rw [z2] at gd
        exact ⟨c, v2, rfl, gd, hq ρ2 H2 Ext.refl s2 v2 rr⟩
  · refine .inl ⟨ρ, st, s, ?_⟩
    cases e1 : ma st with
    | no => rw [e1] at hq; exact hq
    | er c vs st' => rw [e1] at hq; exact hq
    | ok da st1 =>
      rw [e1] at hq
      intro ρ1 H1 x1 s1 x rx
      refine ⟨ρ1, st1, s1, ?_⟩
      have hq := OutC.later hq x1
      have hq : OutC ER ρ1 st1 H1 (bindO (mb st1) fun b st2 => optO (ixD da b) st2) _ := hq
      cases e2 : mb st1 with
      | no => rw [e2] at hq; exact hq
      | er c vs st' => rw [e2] at hq; exact hq
      | ok db st2 =>
        rw [e2] at hq
        intro ρ2 H2 x2 s2 y ry
        have hq := OutC.later hq x2
        have hq : OutC ER ρ2 st2 H2 (optO (ixD da db) st2) _ := hq
        cases e3 : seqD da with
        | none => exact absurd ⟨da, st1, db, st2, e1, e2, e3⟩ hd
        | some ds =>
          have hq : OutC ER ρ2 st2 H2 (optO (ixD da db) st2) _ := hq
          rw [ixD_seq e3] at hq
          cases db with
          | int i =>
            have hq : OutC ER ρ2 st2 H2 (optO (atD ds i) st2) _ := hq
            cases ed : atD ds i with
            | none => rw [ed] at hq; exact hq.elim
            | some d =>
              rw [ed] at hq
              obtain ⟨p, xs, rfl, hp, rs⟩ := (rx.go x2).seq e3
              obtain ⟨v, ev, rv⟩ := atD_ok rs ed
              rw [hk]
              rcases hp with hp | hp
              · exact .inl ⟨p, xs, i, v, rfl, ry.inv_int, hp, ev, hq ρ2 H2 Ext.refl s2 v rv⟩
              · exact .inr (.inl ⟨p, xs, i, v, rfl, ry.inv_int, hp, ev, hq ρ2 H2 Ext.refl s2 v rv⟩)
          | _ => exact hq.elim
end
end RE
set_option maxHeartbeats 2000000
namespace RE
open PySem PySem.Spec PyProof.Rows L2
def mFun (f : List D → Option D) (ms : MA) : M := fun st => bindO (ms st) fun ds st1 => optO (f ds) st1
def ROpN (g : G) (r : List V → Hp → VK → Prop) (f : List D → Option D) : Prop := ∀ (ρ : Rh) (σ : L2.St) (st : S) (H : Hp) (xs : List V) (ds : List D) (d : D) (Q : VK), f ds = some d → Sim g ρ σ H st → RpA g (Vol ρ st) H xs ds →
  (∀ ρ' H' v, Ext ρ st H ρ' st H' → Sim g ρ' σ H' st → Rp g (Vol ρ' st) H' v d → Q v H') → r xs H Q
section
variable {X : Cx} {g : G} {ER : EK} {pos p : Pos} {x : Str} {e : Expr} {es : List Expr} {ms : MA} {r : List V → Hp → VK → Prop} {f : List D → Option D}
theorem tM_fun (hf : ROpN g r f) {σ : L2.St} {H : Hp} {Q : VK} (h : tM g ER (mFun f ms) σ H Q) : tCB r (tMA g ER ms) σ H Q := by
  obtain ⟨ρ, st, s, h⟩ := h
  refine ⟨ρ, st, s, (OutC.bind h).mono fun ds st1 ρ1 H1 _ h1 s1 xs rs => ?_⟩
  cases ed : f ds with
  | none => rw [ed] at h1; exact h1.elim
  | some d =>
    rw [ed] at h1
    exact hf ρ1 σ st1 H1 xs ds d Q ed s1 rs fun ρ' H' v e' s' r' => h1 ρ' H' e' s' v r'
theorem pe_mCallB {id : String} (hc : CallR X (.builtin id) r) (hf : ROpN g r f) (hg : Gl X x) (hm : X.mg x = none) (hv : bootBuiltins x = some (.builtin id)) (ha : PA X (e :: es) (tMA g ER ms)) (hn : x ≠ "__name__" := by decide) (hdb : (x == ("__debug__" : Str)) = false := by decide)
    (he : starEach (e :: es) X.env = (false, eval e X.env) :: starEach es X.env := by rfl) (hpl : (backTo pos (starEach es X.env)).any (·.1) = false := by rfl) : PE X (.Call (.Name x p) (e :: es) [] pos) (tM g ER (mFun f ms)) :=
  PEi (pe_callB hc hg hm hv ha hn hdb he hpl) fun _ _ _ h => tM_fun hf h
theorem pe_mCallT {T : String} (hc : CallR X (.type T) r) (hf : ROpN g r f) (hg : Gl X x) (hm : X.mg x = none) (hv : bootBuiltins x = some (.type T)) (ha : PA X (e :: es) (tMA g ER ms)) (hn : x ≠ "__name__" := by decide) (hdb : (x == ("__debug__" : Str)) = false := by decide)
    (he : starEach (e :: es) X.env = (false, eval e X.env) :: starEach es X.env := by rfl) (hpl : (backTo pos (starEach es X.env)).any (·.1) = false := by rfl) : PE X (.Call (.Name x p) (e :: es) [] pos) (tM g ER (mFun f ms)) :=
  PEi (pe_callTy hc hg hm hv ha hn hdb he hpl) fun _ _ _ h => tM_fun hf h
end
section
variable {g : G} {A : Addr → Prop} {H : Hp} {vs : List V}
theorem RpA.one {d : D} (r : RpA g A H vs [d]) : ∃ v, vs = [v] ∧ Rp g A H v d := by
  obtain ⟨x, xs, rfl, r1, r2⟩ := r.cases_cons
  rw [r2.cases_nil]
  exact ⟨x, rfl, r1⟩
theorem RpA.two {d e : D} (r : RpA g A H vs [d, e]) : ∃ v u, vs = [v, u] ∧ Rp g A H v d ∧ Rp g A H u e := by
  obtain ⟨x, xs, rfl, r1, r2⟩ := r.cases_cons
  obtain ⟨u, rfl, r3⟩ := r2.one
  exact ⟨x, u, rfl, r1, r3⟩
end
def lenD : List D → Option D
  | [.str s] => if s.length ≤ lim then some (.int s.length) else none
  | [d] => match seqD d with
    | some ds => some (.int ds.length)
    | none => none
  | _ => none
theorem rop_len {g : G} : ROpN g (fun xs H Q => ∃ x n, xs = [x] ∧ LenV g.K x H n ∧ Q (.int (n : Nat)) H) lenD := by
  intro ρ σ st H xs ds d Q e s rs k
  unfold lenD at e
  split at e
  · rename_i z
    obtain ⟨v, rfl, r⟩ := rs.one
    obtain rfl := r.inv_str
    split at e
    · rename_i hz
      exact ⟨_, _, rfl, ⟨lim_ok hz, rfl⟩, k ρ H _ Ext.refl s (by rw [← Option.some.inj e]; exact .int _)⟩
    · cases e
  · rename_i d' _
    obtain ⟨v, rfl, r⟩ := rs.one
    cases e1 : seqD d' with
    | none => simp only [e1] at e; cases e
    | some es =>
      simp only [e1] at e
      obtain ⟨a, ys, rfl, ha, ra⟩ := r.seq e1
      refine ⟨_, ys.length, rfl, ?_, k ρ H _ Ext.refl s (by rw [← Option.some.inj e, ra.1]; exact .int _)⟩
      rcases ha with ha | ha
      · exact .inl ⟨_, ha, rfl⟩
      · exact .inr ⟨_, ha, rfl⟩
  · cases e
def listD : List D → Option D
  | [d] => match seqD d with
    | some ds => some (.lst ds)
    | none => none
  | _ => none
theorem rop_list {g : G} : ROpN g (fun xs H Q => ∃ p ys, xs = [.ref p] ∧ (SqL g.K H p ys ∨ SqT g.K H p ys) ∧ ∀ l, H l = none → Q (.ref l) (upd H l (.lst ys))) listD := by
  intro ρ σ st H xs ds d Q e s rs k
  unfold listD at e
  split at e
  · rename_i d'
    obtain ⟨v, rfl, r⟩ := rs.one
    cases e1 : seqD d' with
    | none => simp only [e1] at e; cases e
    | some es =>
      simp only [e1] at e
      cases Option.some.inj e
      obtain ⟨a, ys, rfl, ha, ra⟩ := r.seq e1
      exact ⟨a, ys, rfl, ha, fresh_lst s ra k⟩
  · cases e
def tupleD : List D → Option D
  | [.lst ds] => some (.tup ds)
  | [.tup ds] => some (.tup ds)
  | [.kt ds] => some (.kt ds)
  | _ => none
theorem rop_tuple {g : G} : ROpN g (fun xs H Q => ∃ p ys, xs = [.ref p] ∧ ((SqL g.K H p ys ∧ ∀ l, H l = none → Q (.ref l) (upd H l (.tup ys))) ∨ (SqT g.K H p ys ∧ Q (.ref p) H))) tupleD := by
  intro ρ σ st H xs ds d Q e s rs k
  unfold tupleD at e
  split at e
  · cases Option.some.inj e
    obtain ⟨v, rfl, r⟩ := rs.one
    obtain ⟨a, ys, rfl, ha, _, ra⟩ := r.inv_lst
    exact ⟨a, ys, rfl, .inl ⟨SqL.of ha, fresh_tup s ra k⟩⟩
  · cases Option.some.inj e
    obtain ⟨v, rfl, r⟩ := rs.one
    obtain ⟨a, ys, rfl, ha, na, ra⟩ := r.inv_tup
    exact ⟨a, ys, rfl, .inr ⟨SqT.of ha, k ρ H _ Ext.refl s r⟩⟩
  · cases Option.some.inj e
    obtain ⟨v, rfl, r⟩ := rs.one
    obtain ⟨a, ys, rfl, ha, ra⟩ := r.inv_kt
    exact ⟨a, ys, rfl, .inr ⟨ha.sq, k ρ H _ Ext.refl s r⟩⟩
  · cases e
def intD : List D → Option D
  | [.int i] => some (.int i)
  | [.bl b] => some (.int (if b then 1 else 0))
  | _ => none
theorem rop_int {g : G} : ROpN g (fun xs H Q => (∃ i, xs = [.int i] ∧ Q (.int i) H) ∨ ∃ k, xs = [.bl k] ∧ Q (.int (if k then 1 else 0)) H) intD := by
  intro ρ σ st H xs ds d Q e s rs k
  unfold intD at e
  split at e
  · cases Option.some.inj e
    obtain ⟨v, rfl, r⟩ := rs.one
    obtain rfl := r.inv_int
    exact .inl ⟨_, rfl, k ρ H _ Ext.refl s (.int _)⟩
  · cases Option.some.inj e
    obtain ⟨v, rfl, r⟩ := rs.one
    obtain rfl := r.inv_bl
    exact .inr ⟨_, rfl, k ρ H _ Ext.refl s (.int _)⟩
  · cases e
def absD : List D → Option D
  | [.int i] => some (.int (if i < 0 then -i else i))
  | _ => none
theorem rop_abs {g : G} : ROpN g (fun xs H Q => ∃ i, xs = [.int i] ∧ Q (.int (if i < 0 then -i else i)) H) absD := by
  intro ρ σ st H xs ds d Q e s rs k
  unfold absD at e
  split at e
  · cases Option.some.inj e
    obtain ⟨v, rfl, r⟩ := rs.one
    obtain rfl := r.inv_int
    exact ⟨_, rfl, k ρ H _ Ext.refl s (.int _)⟩
  · cases e
def blD : D → Option Bool
  | .bl b => some b
  | _ => none
theorem bls_ok {g : G} {A : Addr → Prop} {H : Hp} : ∀ {ds : List D} {vs : List V} {bs : List Bool}, mapO blD ds = some bs → RpA g A H vs ds → vs = bs.map V.bl
  | [], vs, bs, e, r => by
    cases Option.some.inj e
    exact r.cases_nil
  | d :: ds, vs, bs, e, r => by
    obtain ⟨x, xs, rfl, r1, r2⟩ := r.cases_cons
    obtain ⟨y, ys, e1, e2, rfl⟩ := mapO_cons e
    rw [bls_ok e2 r2]
    cases d with
    | bl b => cases Option.some.inj e1; rw [r1.inv_bl]; rfl
    | _ => cases e1
def anyD : List D → Option D
  | [.lst ds] => match mapO blD ds with
    | some bs => some (.bl (bs.any id))
    | none => none
  | _ => none
def allD : List D → Option D
  | [.lst ds] => match mapO blD ds with
    | some bs => some (.bl (bs.all id))
    | none => none
  | _ => none
theorem rop_any {g : G} : ROpN g (rAny g.K) anyD := by
  intro ρ σ st H xs ds d Q e s rs k
  unfold anyD at e
  split at e
  · rename_i es
    obtain ⟨v, rfl, r⟩ := rs.one
    obtain ⟨a, ys, rfl, ha, _, ra⟩ := r.inv_lst
    cases e1 : mapO blD es with
    | none => simp only [e1] at e; cases e
    | some bs =>
      simp only [e1] at e
      cases Option.some.inj e
      rw [bls_ok e1 ra] at ha
      exact ⟨a, bs, rfl, SqL.of ha, k ρ H _ Ext.refl s (.bl _)⟩
  · cases e
theorem rop_all {g : G} : ROpN g (rAll g.K) allD := by
  intro ρ σ st H xs ds d Q e s rs k
  unfold allD at e
  split at e
  · rename_i es
    obtain ⟨v, rfl, r⟩ := rs.one
    obtain ⟨a, ys, rfl, ha, _, ra⟩ := r.inv_lst
    cases e1 : mapO blD es with
    | none => simp only [e1] at e; cases e
    | some bs =>
      simp only [e1] at e
      cases Option.some.inj e
      rw [bls_ok e1 ra] at ha
      exact ⟨a, bs, rfl, SqL.of ha, k ρ H _ Ext.refl s (.bl _)⟩
  · cases e
inductive Ty where
  | list | tuple | int | bool | str
def Ty.nm : Ty → String
  | .list => "list"
  | .tuple => "tuple"
  | .int => "int"
  | .bool => "bool"
  | .str => "str"
/-- the name of a datum's class, as Ty; None and dicts apart -/
def isaD : Ty → D → Option Bool
  | .list, .lst _ => some true
  | .tuple, .tup _ => some true
  | .tuple, .kt _ => some true
  | .int, .int _ => some true
  | .int, .bl _ => some true
  | .bool, .bl _ => some true
  | .str, .str _ => some true
  | _, .fn _ => none
  | _, .ks _ => none
  | _, .dK _ => none
  | _, .dT _ => none
  | _, .ob _ _ => none
  | _, _ => some false
def clsD : D → Option String
  | .non => some "NoneType"
  | .bl _ => some "bool"
  | .int _ => some "int"
  | .str _ => some "str"
  | .lst _ => some "list"
  | .tup _ => some "tuple"
  | .kt _ => some "tuple"
  | .dK _ => none
  | .dT _ => none
  | .fn _ => none
  | .ks _ => none
  | .ob _ _ => none
theorem clsD_ok {g : G} {A : Addr → Prop} {H : Hp} {v : V} {d : D} {c : String} (r : Rp g A H v d) (e : clsD d = some c) : TyX g.K H v (.type c) := by
  cases r with
  | non => cases Option.some.inj e; exact .base .non
  | bl b => cases Option.some.inj e; exact .base (.bl b)
  | int i => cases Option.some.inj e; exact .base (.int i)
  | str z => cases Option.some.inj e; exact .base (.str z)
  | lst h _ _ _ => cases Option.some.inj e; exact .base (.lst h)
  | tup h _ _ _ => cases Option.some.inj e; exact .base (.tup h)
  | kls _ _ _ _ => cases e
  | klw _ _ _ => cases e
  | ktup h _ _ =>
    cases Option.some.inj e
    rcases h with ⟨o, _, _, ho, hc, _⟩ | ⟨o, ho, _⟩
    · exact .kTuple ho hc
    · exact .fTuple ho
  | dK _ _ _ _ _ => cases e
  | dT _ _ _ _ _ => cases e
  | fn i => cases e
  | ob _ _ _ _ _ => cases e
theorem isaD_kit {t : Ty} {d : D} {b : Bool} (e : isaD t d = some b) : ∃ c, clsD d = some c ∧ kitB c t.nm = some b := by
  cases d <;> cases t <;> first
    | (cases e; done)
    | (cases Option.some.inj e; exact ⟨_, rfl, by decide +kernel⟩)
end RE
set_option maxHeartbeats 2000000
namespace RE
open PySem PySem.Spec PyProof.Rows L2
def mIsa (t : Ty) (m : M) : M := fun st => bindO (m st) fun d st1 => match isaD t d with
  | some b => .ok (.bl b) st1
  | none => .no
def isa2 (t u : Ty) (d : D) : Option Bool := match isaD t d with
  | some true => some true
  | some false => isaD u d
  | none => none
def mIsa2 (t u : Ty) (m : M) : M := fun st => bindO (m st) fun d st1 => match isa2 t u d with
  | some b => .ok (.bl b) st1
  | none => .no
section
variable {X : Cx} {g : G} {ER : EK} {pos p : Pos} {a b : Expr} {m : M}
theorem pe_mIsa (t : Ty) (hk : X.K = g.K) (hg : Gl X "isinstance") (hm : X.mg "isinstance" = none) (ha : PE X a (tM g ER m)) (hb : PE X b (tC (.ty t.nm)))
    (he : starEach [a, b] X.env = (false, eval a X.env) :: starEach [b] X.env := by rfl) (he2 : starEach [b] X.env = (false, eval b X.env) :: starEach [] X.env := by rfl) (hpl : (backTo pos (starEach [b] X.env)).any (·.1) = false := by rfl) :
    PE X (.Call (.Name "isinstance" p) [a, b] [] pos) (tM g ER (mIsa t m)) := by
  refine PEi (pe_callB call_isi hg hm (by decide +kernel) (pa_cons ha (pa_cons hb pa_nil he2) he) (he := he) (hpl := hpl)) fun σ H Q h => ?_
  obtain ⟨ρ, st, s, h⟩ := h
  refine ⟨ρ, st, s, (OutC.bind h).mono fun d st1 ρ1 H1 _ h1 s1 x rx => ?_⟩
  cases e : isaD t d with
  | none => simp only [e] at h1; exact h1.elim
  | some k =>
    simp only [e] at h1
    obtain ⟨c, e1, e2⟩ := isaD_kit e
    rw [hk]
    exact ⟨x, _, _, _, k, rfl, .ty _, clsD_ok rx e1, kit_ty e2, h1 ρ1 H1 Ext.refl s1 _ (.bl _)⟩
theorem isa2_kit {K : PySem.W.Frag} {t u : Ty} {d : D} {k : Bool} (e : isa2 t u d = some k) : ∃ c, clsD d = some c ∧ PySem.W.kitAny K (.type c) [.type t.nm, .type u.nm] = some k := by
  unfold isa2 at e
  cases e1 : isaD t d with
  | none => simp only [e1] at e; cases e
  | some k1 =>
    simp only [e1] at e
    obtain ⟨c, c1, c2⟩ := isaD_kit e1
    cases k1 with
    | true =>
      cases Option.some.inj e
      exact ⟨c, c1, kitAny_cons (kit_ty c2) (fun z => nomatch z) fun _ => rfl⟩
    | false =>
      obtain ⟨c', d1, d2⟩ := isaD_kit (show isaD u d = some k from e)
      rw [c1] at d1
      cases Option.some.inj d1
      refine ⟨c, c1, kitAny_cons (kit_ty c2) (fun _ => ?_) fun z => nomatch z⟩
      refine kitAny_cons (kit_ty d2) (fun z => ?_) fun z => z
      rw [z]
      rfl
theorem pe_mIsa2 {e1 e2 : Expr} {x1 : _} {p2 : Pos} (t u : Ty) (hk : X.K = g.K) (hg : Gl X "isinstance") (hm : X.mg "isinstance" = none) (ha : PE X a (tM g ER m)) (h1 : PE X e1 (tC (.ty t.nm))) (h2 : PE X e2 (tC (.ty u.nm)))
    (he : starEach [a, .Tuple [e1, e2] x1 p2] X.env = (false, eval a X.env) :: starEach [.Tuple [e1, e2] x1 p2] X.env := by rfl) (hpl : (backTo pos (starEach [.Tuple [e1, e2] x1 p2] X.env)).any (·.1) = false := by rfl)
    (he1 : starEach [e1, e2] X.env = (false, eval e1 X.env) :: starEach [e2] X.env := by rfl) (he2 : starEach [e2] X.env = (false, eval e2 X.env) :: starEach [] X.env := by rfl) :
    PE X (.Call (.Name "isinstance" p) [a, .Tuple [e1, e2] x1 p2] [] pos) (tM g ER (mIsa2 t u m)) := by
  refine PEi (pe_callB call_isiT hg hm (by decide +kernel) (pa_cons ha (pa_cons (pe_tup (pa_cons h1 (pa_cons h2 pa_nil he2) he1)) pa_nil) he) (he := he) (hpl := hpl)) fun σ H Q h => ?_
  obtain ⟨ρ, st, s, h⟩ := h
  refine ⟨ρ, st, s, (OutC.bind h).mono fun d st1 ρ1 H1 _ h1 s1 x rx => ?_⟩
  refine ⟨by show 2 ≤ sizeLine; rw [sizeLine_eq]; decide, fun q hq => ?_⟩
  cases e : isa2 t u d with
  | none => simp only [e] at h1; exact h1.elim
  | some k =>
    simp only [e] at h1
    obtain ⟨c, c1, c2⟩ := isa2_kit (K := g.K) e
    rw [hk]
    exact ⟨x, q, [.ty t.nm, .ty u.nm], _, _, k, rfl, upd_same, .cons (.ty _) (.cons (.ty _) .nil), clsD_ok (rx.go (Ext.new s1 hq)) c1, c2, h1 ρ1 _ (Ext.new s1 hq) (s1.new hq) _ (.bl _)⟩
end

/-- x goes in ahead of the first that is greater -/
def insP (x : D × PyData) : List (D × PyData) → List (D × PyData)
  | [] => [x]
  | y :: r => if PySem.W.dataLt x.2 y.2 = true then x :: y :: r else y :: insP x r
def sortP (l : List (D × PyData)) : List (D × PyData) := l.foldl (fun acc x => insP x acc) []
def alikeB : List PyData → Bool
  | [] => true
  | p :: ps => ps.all (fun q => PySem.W.alike p q) && alikeB ps
end RE
set_option maxHeartbeats 2000000
namespace RE
open PySem PySem.Spec PyProof.Rows L2
section
variable {α : Type} {le : α → α → Bool}
def insL (le : α → α → Bool) (x : α) : List α → List α
  | [] => [x]
  | y :: r => if le y x = true then y :: insL le x r else x :: y :: r
def sortL (le : α → α → Bool) (l : List α) : List α := l.foldl (fun acc x => insL le x acc) []
theorem insL_mem {x z : α} : ∀ {l : List α}, z ∈ insL le x l → z = x ∨ z ∈ l
  | [], h => by
    have : z = x := by simpa [insL] using h
    exact .inl this
  | y :: r, h => by
    unfold insL at h
    split at h
    · rcases List.mem_cons.mp h with h | h
      · exact .inr (by rw [h]; exact List.mem_cons_self)
      · rcases insL_mem h with h | h
        · exact .inl h
        · exact .inr (List.mem_cons_of_mem _ h)
    · rcases List.mem_cons.mp h with h | h
      · exact .inl h
      · exact .inr h
theorem le_of_not (T : PySem.W.TotalLe le) {x y : α} (h : ¬ le y x = true) : le x y = true := by
  rcases T.total x y with q | q
  · exact q
  · exact absurd q h
theorem insL_sorted (T : PySem.W.TotalLe le) (x : α) : ∀ {l : List α}, l.Pairwise (fun a b => le a b = true) → (insL le x l).Pairwise (fun a b => le a b = true)
  | [], _ => List.pairwise_singleton _ _
  | y :: r, h => by
    obtain ⟨h1, h2⟩ := (List.pairwise_cons).mp h
    unfold insL
    split
    · rename_i hyx
      refine List.pairwise_cons.mpr ⟨fun z hz => ?_, insL_sorted T x h2⟩
      rcases insL_mem hz with e | e
      · rw [e]; exact hyx
      · exact h1 z e
    · rename_i hyx
      have hxy := le_of_not T hyx
      refine List.pairwise_cons.mpr ⟨fun z hz => ?_, h⟩
      rcases List.mem_cons.mp hz with e | e
      · rw [e]; exact hxy
      · exact T.trans _ _ _ hxy (h1 z e)
theorem insL_filter (T : PySem.W.TotalLe le) (x c : α) : ∀ {l : List α}, l.Pairwise (fun a b => le a b = true) → (insL le x l).filter (PySem.W.sameRank le c) = (l ++ [x]).filter (PySem.W.sameRank le c)
  | [], _ => rfl
  | y :: r, h => by
    obtain ⟨h1, h2⟩ := (List.pairwise_cons).mp h
    unfold insL
    split
    · rw [List.cons_append, List.filter_cons, List.filter_cons, insL_filter T x c h2]
    · rename_i hyx
      -- x is below all of y :: r
      by_cases hs : PySem.W.sameRank le c x = true
      · have hno : ∀ z ∈ y :: r, PySem.W.sameRank le c z = false := by
          intro z hz
          cases q : PySem.W.sameRank le c z with
          | false => rfl
          | true =>
            exfalso
            unfold PySem.W.sameRank at q hs
            obtain ⟨q1, q2⟩ := (Bool.and_eq_true_iff).mp q
            obtain ⟨s1, s2⟩ := Bool.and_eq_true_iff.mp hs
            have hzx : le z x = true := T.trans _ _ _ q2 s1
            rcases List.mem_cons.mp hz with e | e
            · subst e; exact hyx hzx
            · exact hyx (T.trans _ _ _ (h1 z e) hzx)
        have hf : (y :: r).filter (PySem.W.sameRank le c) = [] := List.filter_eq_nil_iff.mpr fun z hz => by rw [hno z hz]; exact Bool.false_ne_true
        rw [List.filter_cons_of_pos hs, hf, List.filter_append, hf, List.filter_cons_of_pos hs]
        rfl
      · rw [List.filter_cons_of_neg hs, List.filter_append, List.filter_cons_of_neg hs, List.filter_nil, List.append_nil]
theorem foldl_ins (T : PySem.W.TotalLe le) : ∀ (l acc : List α), acc.Pairwise (fun a b => le a b = true) → (l.foldl (fun acc x => insL le x acc) acc).Pairwise (fun a b => le a b = true) ∧ ∀ c, (l.foldl (fun acc x => insL le x acc) acc).filter (PySem.W.sameRank le c) = (acc ++ l).filter (PySem.W.sameRank le c)
  | [], acc, h => ⟨h, fun c => by rw [List.append_nil]; rfl⟩
  | x :: l, acc, h => by
    obtain ⟨h1, h2⟩ := foldl_ins T l (insL le x acc) (insL_sorted T x h)
    refine ⟨h1, fun c => ?_⟩
    show (l.foldl (fun acc x => insL le x acc) (insL le x acc)).filter _ = _
    rw [h2 c, List.filter_append, insL_filter T x c h, ← List.filter_append, List.append_assoc]
    rfl
theorem sortL_is (T : PySem.W.TotalLe le) (l : List α) : sortL le l = l.mergeSort le := by
  obtain ⟨h1, h2⟩ := foldl_ins T l [] List.Pairwise.nil
  exact PySem.W.sort_unique T h1 fun c => h2 c
end
/-- data in order: each with what it reads as -/
def leP (a b : D × PyData) : Bool := !PySem.W.dataLt b.2 a.2
def shapeB (p : PyData) : Bool := match p with
  | .tuple (_ :: _) => true
  | _ => false
def plainB (p : PyData) : Bool := match p with
  | .tuple _ => false
  | .none => false
  | _ => true
def sortD : List D → Option D
  | [.lst ds] => match mapO (toP 20) ds with
    | some ps => if (ps.all fun p => ps.all fun q => PySem.W.alike p q) = true ∧ (ps.all shapeB = true ∨ ps.all plainB = true) then some (.lst ((sortL leP (ds.zip ps)).map (·.1))) else none
    | none => none
  | _ => none

def rSortDt (K : PySem.W.Frag) : List V → Hp → VK → Prop := fun vs H Q => ∃ (a : Addr) (xs : List V) (ps : List PyData), vs = [V.ref a] ∧ SqL K H a xs ∧ DpAll K H xs ps ∧ PyData.depthAll ps ≤ 30 ∧ PySem.W.AllAlike ps ∧ PySem.W.Sortable ps ∧
  ∀ p, H p = none → Q (.ref p) (upd H p (.lst (((xs.zip ps).mergeSort (PySem.W.dataLe false fun b => b.2)).map (·.1))))
theorem dpAll_len {K : PySem.W.Frag} {H : Hp} : ∀ {xs : List V} {ps : List PyData}, DpAll K H xs ps → xs.length = ps.length
  | _, _, .nil => rfl
  | _, _, .cons _ t => by rw [List.length_cons, List.length_cons, dpAll_len t]
theorem depth_mem : ∀ {ps : List PyData} {p : PyData}, p ∈ ps → p.depth ≤ PyData.depthAll ps
  | q :: ps, p, h => by
    simp only [PyData.depthAll]
    rcases (List.mem_cons).mp h with e | e
    · rw [e]; omega
    · have := depth_mem e; omega
theorem each_zip {R : Value → V × PyData → Prop} : ∀ {us : List Value} {xs : List V} {ps : List PyData}, us.length = xs.length → xs.length = ps.length → (∀ (i : Nat) u x p, us[i]? = some u → xs[i]? = some x → ps[i]? = some p → R u (x, p)) → PySem.W.EachIs R us (xs.zip ps)
  | [], [], [], _, _, _ => .nil
  | u :: us, x :: xs, p :: ps, h1, h2, h => .cons (h 0 u x p rfl rfl rfl) (each_zip (by simpa using h1) (by simpa using h2) fun i u x p a b c => h (i + 1) u x p a b c)
  | [], _ :: _, _, h, _, _ => by simp at h
  | _ :: _, [], _, h, _, _ => by simp at h
  | [], [], _ :: _, _, h, _ => by simp at h
  | _ :: _, _ :: _, [], _, h, _ => by simp at h
theorem readsAll_ix {h : Heap} : ∀ {us : List Value} {ps : List PyData} {as : List Addr}, ReadsAll h us ps as → ∀ (i : Nat) u p, us[i]? = some u → ps[i]? = some p → ∃ bs, Reads h u p bs
  | _, _, _, .nil, i, u, p, a, _ => by simp at a
  | _, _, _, .cons h1 h2, 0, u, p, a, b => by
    have e1 := Option.some.inj (show some _ = some u from a)
    have e2 := Option.some.inj (show some _ = some p from b)
    subst e1; subst e2
    exact ⟨_, h1⟩
  | _, _, _, .cons h1 h2, i + 1, u, p, a, b => readsAll_ix h2 i u p a b
theorem vals_each : ∀ {out : List Value} {bs : List (V × PyData)}, PySem.W.EachIs (fun u b => RelV b.1 u) out bs → Vals (bs.map (·.1)) out
  | _, _, .nil => .nil
  | _, _, .cons h t => .cons h (vals_each t)
theorem cr_sortDt {X : Cx} (hc : X.calm = true) (hu : X.A.units + 64 < cLine) : CallR X (.builtin "sorted") (rSortDt X.K) := by
  intro pq s σ H vs us Q I r h
  obtain ⟨a, xs, ps, rfl, hs, hd, h30, hal, hk, q⟩ := h
  obtain ⟨itz, rv, hl, hz⟩ := I.list hs
  obtain ⟨ux, rfl, ru⟩ := vals1 r
  obtain rfl : ux = Value.ref a := ru
  obtain ⟨as, hr⟩ := Dp.readsAll I ps xs itz hd rv
  have l1 : itz.length = xs.length := rv.length.symm
  have l2 : xs.length = ps.length := dpAll_len hd
  have lz : (xs.zip ps).length = xs.length := by rw [List.length_zip, ← l2, Nat.min_self]
  have em : (xs.zip ps).map (fun b => b.2) = ps := List.map_snd_zip (by omega)
  refine PySem.W.sorted_data (β := V × PyData) (bs := xs.zip ps) (enc := fun b => b.2) (R := fun v b => RelV b.1 v) hl.isList
    (each_zip l1 l2 fun i u x p a b c => ?_) (each_zip l1 l2 fun i u x p a b c => readsAll_ix hr i u p a c) (by rw [em]; exact hal) (by rw [em]; exact hk) (by rw [lz]; exact hz) (fun b hb => ?_) fun out ho he => ?_
  · obtain ⟨v, hv, rr⟩ := rv.get b
    rw [a] at hv
    cases hv
    exact rr
  · have := depth_mem (List.of_mem_zip hb).2
    omega
  · have hf : H (s.heap.objs.size + 1) = none := I.hok.fresh (Nat.le_succ _)
    obtain ⟨e, hat⟩ := sortedAll_at s.heap itz (List.toArray out)
    refine ⟨.ref (s.heap.objs.size + 1), _, I.laid (t' := s.toks) (o := .lst (((xs.zip ps).mergeSort (PySem.W.dataLe false fun b => b.2)).map (·.1))) (fun b o q => sortedAll_old q) (Nat.le_succ _) ⟨?_, out, e, vals_each he, hat⟩, rfl, q _ hf⟩
    rw [List.length_map, List.length_mergeSort, lz]
    exact hz
theorem rpA_map {α : Type} {g : G} {A : Addr → Prop} {H : Hp} (f : α → V) (h : α → D) : ∀ {l : List α}, (∀ t ∈ l, Rp g A H (f t) (h t)) → RpA g A H (l.map f) (l.map h)
  | [], _ => RpA.nil
  | t :: l, k => RpA.cons (k t List.mem_cons_self) (rpA_map f h fun u hu => k u (List.mem_cons_of_mem _ hu))
theorem zip3 {g : G} {A : Addr → Prop} {H : Hp} : ∀ {xs : List V} {ds : List D} {ps : List PyData}, RpA g A H xs ds → ∀ t ∈ xs.zip (ds.zip ps), Rp g A H t.1 t.2.1
  | [], _, _, _, t, h => by simp at h
  | _ :: _, [], _, _, t, h => by simp at h
  | _ :: _, _ :: _, [], _, t, h => by simp at h
  | x :: xs, d :: ds, p :: ps, r, t, h => by
    rw [List.zip_cons_cons, List.zip_cons_cons] at h
    rcases (List.mem_cons).mp h with e | e
    · rw [e]; exact r.uncons.1
    · exact zip3 r.uncons.2 t e
theorem zip_13 : ∀ {xs : List V} {ds : List D} {ps : List PyData}, xs.length = ds.length → (xs.zip (ds.zip ps)).map (fun t => (t.1, t.2.2)) = xs.zip ps
  | [], _, _, _ => by simp
  | x :: xs, [], _, h => by simp at h
  | x :: xs, d :: ds, [], _ => by simp
  | x :: xs, d :: ds, p :: ps, h => by
    rw [List.zip_cons_cons, List.zip_cons_cons, List.zip_cons_cons, List.map_cons, zip_13 (by simpa using h)]
theorem zip_23 : ∀ {xs : List V} {ds : List D} {ps : List PyData}, xs.length = ds.length → (xs.zip (ds.zip ps)).map (fun t => t.2) = ds.zip ps
  | [], ds, _, h => by
    cases ds with
    | nil => simp
    | cons _ _ => simp at h
  | x :: xs, [], _, h => by simp at h
  | x :: xs, d :: ds, [], _ => by simp
  | x :: xs, d :: ds, p :: ps, h => by
    rw [List.zip_cons_cons, List.zip_cons_cons, List.map_cons, zip_23 (by simpa using h)]
theorem leP_total : PySem.W.TotalLe leP := by
  have h : PySem.W.TotalLe (PySem.W.dataLe false fun b : D × PyData => b.2) := PySem.W.sortLe_total _ false _
  exact h
abbrev r3 (s t : V × D × PyData) : Bool := leP s.2 t.2
theorem rop_sort {g : G} : ROpN g (rSortDt g.K) sortD := by
  intro ρ σ st H xs ds d Q e s rs k
  unfold sortD at e
  split at e
  · rename_i es
    obtain ⟨v, rfl, r⟩ := rs.one
    obtain ⟨a, ys, rfl, ha, _, ra⟩ := r.inv_lst
    cases e1 : mapO (toP 20) es with
    | none => simp only [e1] at e; cases e
    | some ps =>
      simp only [e1] at e
      split at e
      · rename_i hc
        obtain ⟨c1, c2⟩ := hc
        cases Option.some.inj e
        obtain ⟨b1, b2, b3⟩ := toP_all e1 ra
        refine ⟨a, ys, ps, rfl, SqL.of ha, b1, by omega, fun p hp q hq => List.all_eq_true.mp (List.all_eq_true.mp c1 p hp) q hq, ?_, ?_⟩
        · rcases c2 with c2 | c2
          · refine .inl fun p hp => ?_
            have h := List.all_eq_true.mp c2 p hp
            unfold shapeB at h
            split at h
            · exact ⟨_, _, rfl⟩
            · cases h
          · refine .inr fun p hp => ?_
            have h := List.all_eq_true.mp c2 p hp
            exact ⟨fun z => (by rw [z] at h; cases h), fun xs z => by rw [z] at h; cases h⟩
        · have hT : (ys.zip (es.zip ps)).length = ys.length := by
            rw [List.length_zip, List.length_zip, ra.1, ← dpAll_len b1, ra.1, Nat.min_self, Nat.min_self]
          have m1 : ((ys.zip (es.zip ps)).mergeSort r3).map (fun t => (t.1, t.2.2)) = (ys.zip ps).mergeSort (PySem.W.dataLe false fun b => b.2) := by
            rw [PySem.W.sort_maps (r := r3) (s := PySem.W.dataLe false fun b : V × PyData => b.2) (fun t : V × D × PyData => (t.1, t.2.2)) fun _ _ _ _ => rfl, zip_13 ra.1]
          have m2 : ((ys.zip (es.zip ps)).mergeSort r3).map (fun t => t.2) = (es.zip ps).mergeSort leP := by
            rw [PySem.W.sort_maps (r := r3) (s := leP) (fun t : V × D × PyData => t.2) fun _ _ _ _ => rfl, zip_23 ra.1]
          have rr : RpA g (Vol ρ st) H (((ys.zip ps).mergeSort (PySem.W.dataLe false fun b => b.2)).map (·.1)) ((sortL leP (es.zip ps)).map (·.1)) := by
            rw [sortL_is leP_total, ← m1, ← m2, List.map_map, List.map_map]
            refine rpA_map _ _ fun t ht => ?_
            exact zip3 ra t ((List.mergeSort_perm _ _).mem_iff.mp ht)
          exact fresh_lst s rr k
      · cases e
  · cases e
end RE
set_option maxHeartbeats 2000000
namespace RE
open PySem PySem.Spec PyProof.Rows L2
inductive SO where
  | nx (st : S) | rt (d : D) (st : S) | bk (st : S) | ct (st : S) | er (c : Nat) (vs : List D) (st : S) | no
abbrev MS := S → SO
def bindS {α : Type} (o : O α) (f : α → S → SO) : SO := match o with
  | .ok a st => f a st
  | .er c vs st => .er c vs st
  | .no => .no
def seqS (o : SO) (f : MS) : SO := match o with
  | .nx st => f st
  | o => o
def OutS (g : G) (ER : EK) (ρ : Rh) (st : S) (H : Hp) (o : SO) (E : Ends) : Prop := match o with
  | .nx st' => ∀ ρ' σ' H', Ext ρ st H ρ' st' H' → Sim g ρ' σ' H' st' → E.nx σ' H'
  | .rt d st' => ∀ ρ' σ' H' v, Ext ρ st H ρ' st' H' → Sim g ρ' σ' H' st' → Rp g (Vol ρ' st') H' v d → E.rt v H'
  | .bk st' => ∀ ρ' σ' H', Ext ρ st H ρ' st' H' → Sim g ρ' σ' H' st' → E.bk σ' H'
  | .ct st' => ∀ ρ' σ' H', Ext ρ st H ρ' st' H' → Sim g ρ' σ' H' st' → E.ct σ' H'
  | .er c vs st' => ∀ ρ' H', Ext ρ st H ρ' st' H' → ER c vs ρ' st' H'
  | .no => False
def tMS (g : G) (ER : EK) (ms : MS) : TS := fun E σ H => ∃ ρ st, Sim g ρ σ H st ∧ OutS g ER ρ st H (ms st) E
theorem PSi {X : Cx} {e : Stmt} {t t' : TS} (p : PS X e t) (h : ∀ E σ H, t' E σ H → t E σ H) : PS X e t' := ⟨fun pq s σ H E I q => p.run pq s σ H E I (h _ _ _ q)⟩
theorem PSsi {X : Cx} {e : List Stmt} {t t' : TS} (p : PSs X e t) (h : ∀ E σ H, t' E σ H → t E σ H) : PSs X e t' := ⟨fun pq s σ H E I q => p.run pq s σ H E I (h _ _ _ q)⟩
section
variable {g : G} {ER : EK} {ρ ρ1 : Rh} {st st1 : S} {H H1 : Hp} {E : Ends}
theorem OutS.later {o : SO} (h : OutS g ER ρ st H o E) (e : Ext ρ st H ρ1 st1 H1) : OutS g ER ρ1 st1 H1 o E := by
  cases o with
  | nx st' => exact fun ρ' σ' H' e' s' => h ρ' σ' H' (e.trans e') s'
  | rt d st' => exact fun ρ' σ' H' v e' s' r => h ρ' σ' H' v (e.trans e') s' r
  | bk st' => exact fun ρ' σ' H' e' s' => h ρ' σ' H' (e.trans e') s'
  | ct st' => exact fun ρ' σ' H' e' s' => h ρ' σ' H' (e.trans e') s'
  | er c vs st' => exact fun ρ' H' e' => h ρ' H' (e.trans e')
  | no => exact h
theorem OutS.bind {α : Type} {o : O α} {f : α → S → SO} (h : OutS g ER ρ st H (bindS o f) E) : OutC ER ρ st H o fun a st' ρ' H' => OutS g ER ρ' st' H' (f a st') E := by
  cases o with
  | ok a st' => exact fun ρ' H' e => OutS.later h e
  | er c vs st' => exact h
  | no => exact h
theorem OutS.seq {o : SO} {f : MS} (h : OutS g ER ρ st H (seqS o f) E) : OutS g ER ρ st H o { E with nx := fun σ' H' => tMS g ER f E σ' H' } := by
  cases o with
  | nx st' => exact fun ρ' σ' H' e s => ⟨ρ', st', s, OutS.later h e⟩
  | rt d st' => exact h
  | bk st' => exact h
  | ct st' => exact h
  | er c vs st' => exact h
  | no => exact h
end
def S.put (st : S) (i : Nat) (s : Sl) : S := { st with sl := st.sl.set i s }
section
variable {g : G} {ρ : Rh} {σ : L2.St} {st : S} {H : Hp}
theorem Sim.put (s : Sim g ρ σ H st) (i : Nat) {v : V} {sl : Sl} (h : SlOk g (Vol ρ st) ρ H (some v) sl) : Sim g ρ (σ.set i (some v)) H (st.put i sl) where
  toCells := ⟨s.uok, s.clen, s.cell, s.inj, s.out⟩
  len := by show (σ.set i (some v)).length = (st.sl.set i sl).length; rw [List.length_set, List.length_set, s.len]
  slot := fun j sl' v' h1 h2 => by
    have h1 : (st.sl.set i sl)[j]? = some sl' := h1
    rw [List.getElem?_set] at h1 h2
    by_cases e : i = j
    · rw [if_pos e] at h1 h2
      split at h1
      · split at h2
        · cases Option.some.inj h1
          cases Option.some.inj h2
          exact h
        · cases h2
      · cases h1
    · rw [if_neg e] at h1 h2
      exact s.slot j sl' v' h1 h2
theorem Ext.put (i : Nat) (sl : Sl) : Ext ρ st H ρ (st.put i sl) H := ⟨fun _ _ h n => ⟨h, n⟩, fun _ _ h => h, rfl, fun _ _ => rfl, fun _ h => .inl h, fun _ h => h⟩
end
def mAsg (i : Nat) (m : M) : MS := fun st => bindS (m st) fun d st1 => .nx (st1.put i (.d d))
def mRet (m : M) : MS := fun st => bindS (m st) fun d st1 => .rt d st1
def mDrop (m : M) : MS := fun st => bindS (m st) fun _ st1 => .nx st1
def mIf (t : MT) (a b : MS) : MS := fun st => bindS (t st) fun k st1 => if k = true then a st1 else b st1
def mSeq (a b : MS) : MS := fun st => seqS (a st) b
def mSkip : MS := fun st => .nx st
section
variable {X : Cx} {g : G} {ER : EK} {pos pos' : Pos}
theorem ps_mAsg {i : Nat} {x : Str} {e : Expr} {m : M} (hN : X.N.Nodup) (hi : X.N[i]? = some x) (hx : Loc X.env.scope x) (he : PE X e (tM g ER m)) (hs : swapsWith e (some (.Name x pos')) pos.line X.env = pure false := by rfl) (hf : X.fn x = true ∨ X.env.scope.names.lookup x = some .local := by first | exact .inl rfl | exact .inr rfl) :
    PS X (.Assign [.Name x pos'] e pos) (tMS g ER (mAsg i m)) := by
  refine PSi (ps_set hN hi hx he hs hf) fun E σ H h => ?_
  obtain ⟨ρ, st, s, h⟩ := h
  refine ⟨ρ, st, s, (OutS.bind h).mono fun d st1 ρ1 H1 _ h1 s1 v rv => ?_⟩
  exact h1 ρ1 _ H1 (Ext.put i _) (s1.put i ⟨v, rfl, rv⟩)
theorem ps_mRet {e : Expr} {m : M} (he : PE X e (tM g ER m)) : PS X (.Return (some e) pos) (tMS g ER (mRet m)) := by
  refine PSi (ps_ret he) fun E σ H h => ?_
  obtain ⟨ρ, st, s, h⟩ := h
  refine ⟨ρ, st, s, (OutS.bind h).mono fun d st1 ρ1 H1 _ h1 s1 v rv => ?_⟩
  exact h1 ρ1 σ H1 v Ext.refl s1 rv
theorem ps_mDrop {e : Expr} {m : M} (he : PE X e (tM g ER m)) (hs : swapsWith e none pos.line X.env = pure false := by rfl) : PS X (.Expr e pos) (tMS g ER (mDrop m)) := by
  refine PSi (ps_expr he hs) fun E σ H h => ?_
  obtain ⟨ρ, st, s, h⟩ := h
  refine ⟨ρ, st, s, (OutS.bind h).mono fun d st1 ρ1 H1 _ h1 s1 v rv => ?_⟩
  exact h1 ρ1 σ H1 Ext.refl s1
theorem ps_mIf {c : Expr} {a b : List Stmt} {t : MT} {ma mb : MS} (hc : PT X c (tMT g ER t)) (ha : PSs X a (tMS g ER ma)) (hb : PSs X b (tMS g ER mb)) : PS X (.If c a b pos) (tMS g ER (mIf t ma mb)) := by
  refine PSi (ps_if hc ha hb) fun E σ H h => ?_
  obtain ⟨ρ, st, s, h⟩ := h
  refine ⟨ρ, st, s, (OutS.bind h).mono fun k st1 ρ1 H1 _ h1 s1 => ?_⟩
  cases k with
  | true => exact ⟨ρ1, st1, s1, h1⟩
  | false => exact ⟨ρ1, st1, s1, h1⟩
theorem pss_mCons {a : Stmt} {r : List Stmt} {ma mr : MS} (ha : PS X a (tMS g ER ma)) (hr : PSs X r (tMS g ER mr)) : PSs X (a :: r) (tMS g ER (mSeq ma mr)) := by
  refine PSsi (pss_cons ha hr) fun E σ H h => ?_
  obtain ⟨ρ, st, s, h⟩ := h
  exact ⟨ρ, st, s, OutS.seq h⟩
theorem pss_mOne {a : Stmt} {ma : MS} (ha : PS X a (tMS g ER ma)) : PSs X [a] (tMS g ER ma) := pss_one ha
theorem pss_mNil : PSs X [] (tMS g ER mSkip) := by
  refine PSsi pss_nil fun E σ H h => ?_
  obtain ⟨ρ, st, s, h⟩ := h
  exact h ρ σ H Ext.refl s
/-- a statement that is never come to -/
theorem ps_mNo {e : Stmt} : PS X e (tMS g ER fun _ => .no) := ⟨fun pq s σ H E I h => by
  obtain ⟨ρ, st, _, h⟩ := h
  exact h.elim⟩
end
end RE
set_option maxHeartbeats 2000000
namespace RE
open PySem PySem.Spec PyProof.Rows L2
/-- an error of the class c with the fields vs: what is told of it behind it -/
def ErrIs (g : G) (A : Addr → Prop) (H : Hp) (c : Nat) (vs : List D) (cls : Value) (d : Option Addr) : Prop :=
  cls = .ref (g.C c) ∧ ((g.fld c = [] ∧ vs = [] ∧ d = none) ∨ ∃ dd nm x v, d = some dd ∧ H dd = some (.xd [(nm, x)]) ∧ g.fld c = [nm] ∧ vs = [v] ∧ Rp g A H x v ∧ ¬ A dd)
def erOf (g : G) (E : XK) : EK := fun c vs ρ' st' H' => ∀ cls d, Cells g ρ' H' st' → ErrIs g (Vol ρ' st') H' c vs cls d → E cls d H'
def erNo : EK := fun _ _ _ _ _ => False
def OutF (g : G) (ρ : Rh) (st : S) (H : Hp) (o : SO) (Q : VK) (E : XK) : Prop := match o with
  | .rt d st' => ∀ ρ' H' v, Ext ρ st H ρ' st' H' → Cells g ρ' H' st' → Rp g (Vol ρ' st') H' v d → Q v H'
  | .nx st' => ∀ ρ' H', Ext ρ st H ρ' st' H' → Cells g ρ' H' st' → Q .non H'
  | .er c vs st' => ∀ ρ' H', Ext ρ st H ρ' st' H' → erOf g E c vs ρ' st' H'
  | _ => False
def S.start (as : List Sl) (n : Nat) (ce : List Ce) : S := ⟨as ++ List.replicate (n - as.length) .no, ce⟩
def spF (g : G) (np n : Nat) (ms : MS) : Sp := fun vs H Q E => vs.length = np ∧ ∃ (ρ : Rh) (as : List Sl) (ce : List Ce), as.length = np ∧ Sim g ρ (vs.map some) H ⟨as, ce⟩ ∧ OutF g ρ ⟨as, ce⟩ H (ms (S.start as n ce)) Q E
theorem Vol.ce {ρ : Rh} {st st0 : S} (h : st.ce = st0.ce) (a : Addr) : Vol ρ st a ↔ Vol ρ st0 a := by unfold Vol; rw [h]
theorem Ext.ce {ρ ρ' : Rh} {st st0 st' : S} {H H' : Hp} (e : Ext ρ st H ρ' st' H') (h : st.ce = st0.ce) : Ext ρ st0 H ρ' st' H' :=
  ⟨fun a o h1 n => e.keep a o h1 fun v => n ((Vol.ce h a).mp v), e.pre, e.same, e.un, fun a v => (e.more a v).imp (Vol.ce h a).mp id, e.mono⟩
section
variable {P : Program} {w : World} {base : Heap} {K : PySem.W.Frag} {mg : Str → Option Value}
theorem sim_start {g : G} {ρ : Rh} {H : Hp} {vs : List V} {N : List Str} {as : List Sl} {ce : List Ce} (s : Sim g ρ (vs.map some) H ⟨as, ce⟩) (hn : vs.length ≤ N.length) : Sim g ρ (start N vs) H (S.start as N.length ce) where
  toCells := ⟨s.uok, s.clen, s.cell, s.inj, s.out⟩
  len := by
    have h := s.len
    rw [List.length_map] at h
    have h : vs.length = as.length := h
    show (vs.map some ++ List.replicate (N.length - vs.length) none).length = (as ++ List.replicate (N.length - as.length) Sl.no).length
    simp [h]
  slot := fun i sl v h1 h2 => by
    have h : vs.length = as.length := by have h := s.len; rw [List.length_map] at h; exact h
    have h1 : (as ++ List.replicate (N.length - as.length) Sl.no)[i]? = some sl := h1
    have h2 : (vs.map some ++ List.replicate (N.length - vs.length) none)[i]? = some v := h2
    by_cases hi : i < as.length
    · rw [List.getElem?_append_left hi] at h1
      rw [List.getElem?_append_left (by rw [List.length_map, h]; exact hi)] at h2
      exact s.slot i sl v h1 h2
    · rw [List.getElem?_append_right (by omega), List.getElem?_replicate] at h1
      split at h1
      · cases Option.some.inj h1
        trivial
      · cases h1
/-- a def, by its body's reading -/
theorem okF {g : G} {x qual : Str} {st : Stmt} {f : Addr} {fd : FuncData} {N ps : List Str} {k np n : Nat} {ms : MS} (F : Fun K x qual st f fd) (S' : FnScope N ps (defScope st)) (hp : ps.length = np) (hN : N.length = n) (hpn : np ≤ n)
    (hbody : ∀ (cdv : Value) (A : Around) (outer : List Env) (s : Shared) (H : Hp) (E : XK), Room k (A.deeper (envOfC qual (defScope st) s.heap.objs.size f cdv)) →
      PSs (cxOf (L2.CX P w) P w K mg base N qual (defScope st) f cdv A outer s H E) (defBody st) (tMS g (erOf g E) ms)) : FnOk P w K mg base (L2.CX P w) (k + 1) f fd ps (spF g np n ms) := by
  refine F.okX S' (fun vs H Q E h => by rw [hp]; exact h.1) fun cdv A outer s H vs Q E hr h => ⟨_, hbody cdv A outer s H E hr, ?_⟩
  obtain ⟨hl, ρ, as, ce, ha, sm, ho⟩ := h
  subst hN
  refine ⟨ρ, S.start as N.length ce, sim_start sm (by omega), ?_⟩
  cases e : ms (S.start as N.length ce) with
  | nx st' => rw [e] at ho; exact fun ρ' σ' H' x s' => ho ρ' H' (x.ce rfl) s'.toCells
  | rt d st' => rw [e] at ho; exact fun ρ' σ' H' v x s' r => ho ρ' H' v (x.ce rfl) s'.toCells r
  | bk st' => rw [e] at ho; exact ho.elim
  | ct st' => rw [e] at ho; exact ho.elim
  | er c vs' st' => rw [e] at ho; exact fun ρ' H' x => ho ρ' H' (x.ce rfl)
  | no => rw [e] at ho; exact ho.elim
end
/-- what a def gives for such data -/
def runD (ms : MS) (n : Nat) (ds : List D) (st : S) : O D := match ms (S.start (ds.map .d) n []) with
  | .rt d _ => .ok d st
  | .nx _ => .ok .non st
  | .er c vs _ => .er c vs st
  | _ => .no
def mCall (ms : MS) (n : Nat) (dfl : List D) (ma : MA) : M := fun st => bindO (ma st) fun ds st1 => runD ms n (ds ++ dfl) st1
/-- what the callers' own cells are to the callee -/
theorem sim_args {g : G} {ρ : Rh} {σ : L2.St} {H : Hp} {st : S} {vs : List V} {ds : List D} (s : Sim g ρ σ H st) (r : RpA g (Vol ρ st) H vs ds) : Sim g ⟨[], Vol ρ st⟩ (vs.map some) H ⟨ds.map .d, []⟩ where
  uok := fun a h => s.volT h
  clen := rfl
  cell := fun k c a h => by simp at h
  inj := fun j k c c' a h => by simp at h
  out := fun k c a h => by simp at h
  len := by show (vs.map some).length = (ds.map Sl.d).length; rw [List.length_map, List.length_map, r.1]
  slot := fun i sl v h1 h2 => by
    have h1 : (ds.map Sl.d)[i]? = some sl := h1
    rw [List.getElem?_map] at h1 h2
    obtain ⟨d, hd, rfl⟩ := Option.map_eq_some_iff.mp h1
    obtain ⟨u, hu, rfl⟩ := Option.map_eq_some_iff.mp h2
    refine ⟨u, rfl, (r.2 i u d hu hd).ext fun a o h n => ⟨h, fun v => n ?_⟩⟩
    rcases v with v | ⟨k, c, hc, _⟩
    · exact v
    · simp at hc
theorem CeOk.at {g : G} {ad : List Addr} {A A' : Addr → Prop} {H H' : Hp} {a : Addr} {c : Ce} (h : CeOk g A ad H a c) (ha : H' a = H a) (k : ∀ a o, H a = some o → ¬ A a → H' a = some o ∧ ¬ A' a) : CeOk g A' ad H' a c := h.ext ha k
/-- behind a callee that was told not to speak of our cells, our state stands as it stood -/
theorem back_call {g : G} {ρ ρ' : Rh} {σ : L2.St} {H H' : Hp} {st st0 st' : S} (s : Sim g ρ σ H st) (h0 : st0.ce = []) (e : Ext ⟨[], Vol ρ st⟩ st0 H ρ' st' H') : Ext ρ st H ρ st H' ∧ Sim g ρ σ H' st ∧ ∀ a, Vol ρ st a → Vol ρ' st' a := by
  have nv : ∀ a, ¬ Vol ρ st a → ¬ Vol ⟨[], Vol ρ st⟩ st0 a := fun a n v => by
    rcases v with v | ⟨k, c, hc, _⟩
    · exact n v
    · rw [h0] at hc; simp at hc
  have k : ∀ a o, H a = some o → ¬ Vol ρ st a → H' a = some o ∧ ¬ Vol ρ st a := fun a o h n => ⟨(e.keep a o h (nv a n)).1, n⟩
  have un : ∀ a, Vol ρ st a → H' a = H a := fun a v => e.un a v
  refine ⟨⟨k, fun _ _ h => h, rfl, fun a h => un a (.inl h), fun a h => .inl h, e.mono⟩, ?_, fun a v => ?_⟩
  · refine ⟨⟨fun a h => ?_, s.clen, fun j c a h1 h2 => ?_, s.inj, s.out⟩, s.len, fun i sl v h1 h2 => ?_⟩
    · obtain ⟨o, ho, nt⟩ := s.uok a h
      exact ⟨o, by rw [un a (.inl h)]; exact ho, nt⟩
    · by_cases hc : c.alive = true
      · exact (s.cell j c a h1 h2).ext (un a (.inr ⟨j, c, h1, hc, h2⟩)) k
      · cases c <;> first | trivial | exact absurd rfl hc
    · have q := s.slot i sl v h1 h2
      cases sl with
      | no => trivial
      | d x => obtain ⟨u, eu, r⟩ := q; exact ⟨u, eu, r.ext k⟩
      | rf j => exact q
  · left
    rw [e.same]
    exact v
theorem Rp.back {g : G} {A A' : Addr → Prop} {H : Hp} {v : V} {d : D} (r : Rp g A' H v d) (h : ∀ a, A a → A' a) : Rp g A H v d := r.ext fun a o e n => ⟨e, fun z => n (h a z)⟩
section
variable {X : Cx} {g : G} {ER : EK} {CX : CXT} {k n np : Nat} {f : Addr} {fd : FuncData} {ps : List Str} {ms : MS} {dfl : List D} {dvs : List V} {ds : List Value} {E : XK} {x : Str} {p pos : Pos} {e : Expr} {es : List Expr} {ma : MA}
theorem call_read (hdf : ∀ A H, RpA g A H dvs dfl) (hnp : ∀ vs : List V, (vs.length = np) ↔ (vs.length = ps.length)) (hE : ∀ c vs ρ st H cls d, ER c vs ρ st H → Cells g ρ H st → ErrIs g (Vol ρ st) H c vs cls d → E cls d H)
    {ρ : Rh} {σ : L2.St} {st : S} {H : Hp} {vs : List V} {xs : List D} {Q : VK} (s : Sim g ρ σ H st) (r : RpA g (Vol ρ st) H vs xs) (hl : (vs ++ dvs).length = np)
    (h : OutC ER ρ st H (runD ms n (xs ++ dfl) st) fun d st' ρ' H' => Sim g ρ' σ H' st' → ∀ v, Rp g (Vol ρ' st') H' v d → Q v H') : spF g np n ms (vs ++ dvs) H Q E := by
  have rr := r.append (hdf (Vol ρ st) H)
  refine ⟨hl, ⟨[], Vol ρ st⟩, (xs ++ dfl).map .d, [], by rw [List.length_map, ← rr.1]; exact hl, sim_args s rr, ?_⟩
  unfold runD at h
  cases eo : ms (S.start ((xs ++ dfl).map .d) n []) with
  | nx st' =>
    rw [eo] at h
    intro ρ' H' x c
    obtain ⟨b1, b2, b3⟩ := back_call s rfl x
    exact h ρ H' b1 b2 .non .non
  | rt d st' =>
    rw [eo] at h
    intro ρ' H' v x c r'
    obtain ⟨b1, b2, b3⟩ := back_call s rfl x
    exact h ρ H' b1 b2 v (r'.back b3)
  | bk st' => rw [eo] at h; exact h.elim
  | ct st' => rw [eo] at h; exact h.elim
  | no => rw [eo] at h; exact h.elim
  | er c vs' st' =>
    rw [eo] at h
    intro ρ' H' x cls d cc ei
    obtain ⟨b1, b2, b3⟩ := back_call s rfl x
    refine hE c vs' ρ st H' cls d (h ρ H' b1) b2.toCells ?_
    obtain ⟨q1, q2⟩ := ei
    refine ⟨q1, q2.imp id fun ⟨dd, nm, y, v, z1, z2, z3, z4, z5, z6⟩ => ⟨dd, nm, y, v, z1, z2, z3, z4, z5.back b3, fun q => z6 (b3 _ q)⟩⟩
theorem pe_mCall (F : FnOk X.prog X.w X.K X.mg X.base CX k f fd ps (spF g np n ms)) (hr : Room k X.A) (hg : Gl X x) (hm : X.mg x = some (.ref f)) (hk : PySem.W.keepIn X.K (.ref f) = true) (hb : Binds X.K fd ps ds) (hd : Vals dvs ds) (hx : Passes CX X E)
    (hdf : ∀ A H, RpA g A H dvs dfl) (hE : ∀ c vs ρ st H cls d, ER c vs ρ st H → Cells g ρ H st → ErrIs g (Vol ρ st) H c vs cls d → E cls d H) (ha : PA X (e :: es) (tMA g ER ma)) (hlen : ∀ st xs st', ma st = .ok xs st' → xs.length + dfl.length = np) (hps : ps.length = np) (hdb : (x == ("__debug__" : Str)) = false := by decide) (he : starEach (e :: es) X.env = (false, eval e X.env) :: starEach es X.env := by rfl) (hpl : (backTo pos (starEach es X.env)).any (·.1) = false := by rfl) :
    PE X (.Call (.Name x p) (e :: es) [] pos) (tM g ER (mCall ms n dfl ma)) := by
  refine PEi (pe_call F hr hg hm hk hb hd hx ha hdb he hpl) fun σ H Q h => ?_
  obtain ⟨ρ, st, s, h⟩ := h
  refine ⟨ρ, st, s, ?_⟩
  have hh := OutC.bind h
  cases ea : ma st with
  | no => rw [ea] at hh; exact hh
  | er c vs st' => rw [ea] at hh; exact hh
  | ok xs st1 =>
    rw [ea] at hh
    intro ρ1 H1 x1 s1 vs rs
    refine call_read hdf (fun vs => by rw [hps]) hE s1 rs ?_ (hh ρ1 H1 x1)
    have h1 := hlen st xs st1 ea
    have h2 := (hdf (Vol ρ1 st1) H1).1
    rw [List.length_append, rs.1, h2]
    exact h1
end
end RE
set_option maxHeartbeats 2000000
namespace RE
open PySem PySem.Spec PyProof.Rows L2
abbrev MI := S → O (List D)
/-- J gives, in whatever comes of this state, the items ds one by one -/
def ItOk (g : G) (ρ0 : Rh) (st0 : S) (H0 : Hp) (J : It) (ds : List D) : Prop := ∀ (A : Addr → Prop) (H : Hp), (∀ a o, H0 a = some o → ¬ Vol ρ0 st0 a → H a = some o ∧ ¬ A a) → (∀ a, A a → ∃ o, H a = some o ∧ NT o) → ∀ i : Nat,
  (∀ d, ds[i]? = some d → J.go i H ∧ ∀ x H', J.yld i H x H' → (H' = H ∨ ∃ p o, H p = none ∧ H' = upd H p o) ∧ Rp g A H' x d) ∧ (ds.length ≤ i → J.stop i H)
def tMI (g : G) (ER : EK) (mi : MI) : TI := fun σ H R => ∃ ρ st, Sim g ρ σ H st ∧ OutC ER ρ st H (mi st) fun ds st' ρ' H' => Sim g ρ' σ H' st' → ∀ J, ItOk g ρ' st' H' J ds → R J H'
theorem PIi {X : Cx} {tg e : Expr} {t t' : TI} (p : PI X tg e t) (h : ∀ σ H R, t' σ H R → t σ H R) : PI X tg e t' := ⟨fun pq s σ H R I q => p.run pq s σ H R I (h _ _ _ q)⟩
theorem PI.or {X : Cx} {tg e : Expr} {t u : TI} (p : PI X tg e t) (q : PI X tg e u) : PI X tg e (fun σ H R => t σ H R ∨ u σ H R) := ⟨fun pq s σ H R I h => h.elim (p.run pq s σ H R I) (q.run pq s σ H R I)⟩
section
variable {g : G} {ρ : Rh} {st : S} {H : Hp} {a : Addr} {xs : List V} {ds : List D}
theorem nvolA {A : Addr → Prop} {H : Hp} {p : Addr} (hA : ∀ a, A a → ∃ o, H a = some o ∧ NT o) (hp : H p = none) : ¬ A p := fun v => by
  obtain ⟨o, h, _⟩ := hA p v
  rw [hp] at h; cases h
theorem keepA {A : Addr → Prop} {H : Hp} {p : Addr} {o : HO} (hp : H p = none) : ∀ a u, H a = some u → ¬ A a → upd H p o a = some u ∧ ¬ A a := fun a u h n => ⟨by rw [upd_ne (ne_of_none h hp)]; exact h, n⟩
theorem it_list (h : H a = some (.lst xs)) (n : ¬ Vol ρ st a) (r : RpA g (Vol ρ st) H xs ds) : ItOk g ρ st H (Itl g.K a) ds := fun A H' k hA i => by
  have hs : SqL g.K H' a xs := SqL.of (k a _ h n).1
  refine ⟨fun d hd => ?_, fun hl => ⟨xs, hs, by rw [r.1]; exact hl⟩⟩
  obtain ⟨x, hx, rx⟩ := r.get hd
  refine ⟨⟨xs, x, hs, hx⟩, fun y H'' hy => ⟨.inl hy.1, ?_⟩⟩
  obtain ⟨e1, e2⟩ := hy
  have e3 := e2 xs hs
  rw [hx] at e3
  cases Option.some.inj e3
  rw [e1]
  exact rx.ext k
theorem it_tup (h : (H a = some (.tup xs) ∧ ¬ Vol ρ st a) ∨ KT g.K (Vol ρ st) H a xs) (r : RpA g (Vol ρ st) H xs ds) : ItOk g ρ st H (Itt g.K a) ds := fun A H' k hA i => by
  have hs : SqT g.K H' a xs := by
    rcases h with ⟨h, n⟩ | h
    · exact SqT.of (k a _ h n).1
    · exact (h.ext k).sq
  refine ⟨fun d hd => ?_, fun hl => ⟨xs, hs, by rw [r.1]; exact hl⟩⟩
  obtain ⟨x, hx, rx⟩ := r.get hd
  refine ⟨⟨xs, x, hs, hx⟩, fun y H'' hy => ⟨.inl hy.1, ?_⟩⟩
  obtain ⟨e1, e2⟩ := hy
  have e3 := e2 xs hs
  rw [hx] at e3
  cases Option.some.inj e3
  rw [e1]
  exact rx.ext k
theorem it_range {lo : Int} {n : Nat} : ItOk g ρ st H (Itr lo n) ((List.range n).map fun i => D.int (lo + (i : Nat))) := fun A H' k hA i => by
  refine ⟨fun d hd => ?_, fun hl => by rw [List.length_map, List.length_range] at hl; exact hl⟩
  rw [List.getElem?_map] at hd
  obtain ⟨j, hj, rfl⟩ := Option.map_eq_some_iff.mp hd
  obtain ⟨h1, h2⟩ := List.getElem?_eq_some_iff.mp hj
  rw [List.length_range] at h1
  rw [List.getElem_range] at h2
  subst h2
  exact ⟨h1, fun y H'' hy => ⟨.inl hy.1, by rw [hy.2]; exact .int _⟩⟩
def enumFrom : Nat → List D → List D
  | _, [] => []
  | n, d :: ds => .tup [.int n, d] :: enumFrom (n + 1) ds
theorem enumFrom_len : ∀ (n : Nat) (ds : List D), (enumFrom n ds).length = ds.length
  | _, [] => rfl
  | n, d :: ds => by show (enumFrom (n + 1) ds).length + 1 = ds.length + 1; rw [enumFrom_len]
theorem enumFrom_get : ∀ (ds : List D) (n i : Nat) (d : D), (enumFrom n ds)[i]? = some d → ∃ x, ds[i]? = some x ∧ d = .tup [.int ((n + i : Nat) : Int), x]
  | [], n, i, d, h => by simp [enumFrom] at h
  | x :: ds, n, 0, d, h => ⟨x, rfl, (Option.some.inj h).symm⟩
  | x :: ds, n, i + 1, d, h => by
    obtain ⟨y, h1, h2⟩ := enumFrom_get ds (n + 1) i d h
    refine ⟨y, h1, ?_⟩
    rw [h2]
    have : n + 1 + i = n + (i + 1) := by omega
    rw [this]
theorem it_enum (h : H a = some (.lst xs)) (n : ¬ Vol ρ st a) (r : RpA g (Vol ρ st) H xs ds) : ItOk g ρ st H (Ite g.K a) (enumFrom 0 ds) := fun A H' k hA i => by
  have hs : SqL g.K H' a xs := SqL.of (k a _ h n).1
  refine ⟨fun d hd => ?_, fun hl => ⟨xs, hs, by rw [r.1, ← enumFrom_len 0 ds]; exact hl⟩⟩
  obtain ⟨z, hz, rfl⟩ := enumFrom_get ds 0 i d hd
  obtain ⟨x, hx, rx⟩ := r.get hz
  refine ⟨⟨xs, x, hs, hx⟩, fun y H'' hy => ?_⟩
  obtain ⟨T, x', rfl, hT, rfl, e2⟩ := hy
  have e3 := e2 xs hs
  rw [hx] at e3
  cases Option.some.inj e3
  refine ⟨.inr ⟨T, _, hT, rfl⟩, ?_⟩
  rw [Nat.zero_add]
  exact Rp.tup' upd_same (nvolA hA hT) (RpA.cons (.int _) (RpA.cons ((rx.ext k).ext (keepA hT)) RpA.nil))
def zipD : List D → List D → List D
  | d :: ds, e :: es => .tup [d, e] :: zipD ds es
  | _, _ => []
theorem zipD_get : ∀ (ds es : List D) (i : Nat) (d : D), (zipD ds es)[i]? = some d → ∃ x y, ds[i]? = some x ∧ es[i]? = some y ∧ d = .tup [x, y]
  | [], es, i, d, h => by simp [zipD] at h
  | x :: ds, [], i, d, h => by simp [zipD] at h
  | x :: ds, y :: es, 0, d, h => ⟨x, y, rfl, rfl, (Option.some.inj h).symm⟩
  | x :: ds, y :: es, i + 1, d, h => zipD_get ds es i d h
theorem zipD_len : ∀ (ds es : List D) (i : Nat), (zipD ds es).length ≤ i → ds.length ≤ i ∨ es.length ≤ i
  | [], es, i, _ => .inl (Nat.zero_le _)
  | x :: ds, [], i, _ => .inr (Nat.zero_le _)
  | x :: ds, y :: es, 0, h => by simp [zipD] at h
  | x :: ds, y :: es, i + 1, h => by
    have h' : (zipD ds es).length + 1 ≤ i + 1 := h
    rcases zipD_len ds es i (by omega) with q | q
    · left; rw [List.length_cons]; omega
    · right; rw [List.length_cons]; omega
variable {b : Addr} {ys : List V} {es : List D}
theorem it_zipL (h : H a = some (.lst xs)) (n : ¬ Vol ρ st a) (r : RpA g (Vol ρ st) H xs ds) (h' : H b = some (.lst ys)) (n' : ¬ Vol ρ st b) (r' : RpA g (Vol ρ st) H ys es) : ItOk g ρ st H (Itz g.K a b) (zipD ds es) := fun A H' k hA i => by
  have hs : SqL g.K H' a xs := SqL.of (k a _ h n).1
  have hs' : SqL g.K H' b ys := SqL.of (k b _ h' n').1
  refine ⟨fun d hd => ?_, fun hl => ⟨xs, ys, hs, hs', by rw [r.1, r'.1]; exact zipD_len ds es i hl⟩⟩
  obtain ⟨z, u, hz, hu, rfl⟩ := zipD_get ds es i d hd
  obtain ⟨x, hx, rx⟩ := r.get hz
  obtain ⟨y, hy, ry⟩ := r'.get hu
  refine ⟨⟨xs, ys, x, y, hs, hs', hx, hy⟩, fun v H'' hv => ?_⟩
  obtain ⟨T, x', y', rfl, hT, rfl, e2, e2'⟩ := hv
  have e3 := e2 xs hs
  have e3' := e2' ys hs'
  rw [hx] at e3
  rw [hy] at e3'
  cases Option.some.inj e3
  cases Option.some.inj e3'
  refine ⟨.inr ⟨T, _, hT, rfl⟩, ?_⟩
  exact Rp.tup' upd_same (nvolA hA hT) (RpA.cons ((rx.ext k).ext (keepA hT)) (RpA.cons ((ry.ext k).ext (keepA hT)) RpA.nil))
theorem it_zipT (h : (H a = some (.tup xs) ∧ ¬ Vol ρ st a) ∨ KT g.K (Vol ρ st) H a xs) (r : RpA g (Vol ρ st) H xs ds) (h' : (H b = some (.tup ys) ∧ ¬ Vol ρ st b) ∨ KT g.K (Vol ρ st) H b ys) (r' : RpA g (Vol ρ st) H ys es) : ItOk g ρ st H (RZ.ItzT g.K a b) (zipD ds es) := fun A H' k hA i => by
  have hs : SqT g.K H' a xs := by
    rcases h with ⟨h, n⟩ | h
    · exact SqT.of (k a _ h n).1
    · exact (h.ext k).sq
  have hs' : SqT g.K H' b ys := by
    rcases h' with ⟨h, n⟩ | h
    · exact SqT.of (k b _ h n).1
    · exact (h.ext k).sq
  refine ⟨fun d hd => ?_, fun hl => ⟨xs, ys, hs, hs', by rw [r.1, r'.1]; exact zipD_len ds es i hl⟩⟩
  obtain ⟨z, u, hz, hu, rfl⟩ := zipD_get ds es i d hd
  obtain ⟨x, hx, rx⟩ := r.get hz
  obtain ⟨y, hy, ry⟩ := r'.get hu
  refine ⟨⟨xs, ys, x, y, hs, hs', hx, hy⟩, fun v H'' hv => ?_⟩
  obtain ⟨T, x', y', rfl, hT, rfl, e2, e2'⟩ := hv
  have e3 := e2 xs hs
  have e3' := e2' ys hs'
  rw [hx] at e3
  rw [hy] at e3'
  cases Option.some.inj e3
  cases Option.some.inj e3'
  refine ⟨.inr ⟨T, _, hT, rfl⟩, ?_⟩
  exact Rp.tup' upd_same (nvolA hA hT) (RpA.cons ((rx.ext k).ext (keepA hT)) (RpA.cons ((ry.ext k).ext (keepA hT)) RpA.nil))
end
/-- what is walked: no list of the written part -/
def seqW : D → Option (List D)
  | .ks _ => none
  | d => seqD d
theorem seqW_ok {d : D} {ds : List D} (e : seqW d = some ds) : seqD d = some ds := by
  cases d <;> first | exact e | cases e
theorem seqW_ks {d : D} {ds : List D} (e : seqW d = some ds) : ∀ z, d ≠ .ks z := fun z q => by rw [q] at e; cases e
def miSeq (m : M) : MI := fun st => bindO (m st) fun d st1 => optO (seqW d) st1
section
variable {X : Cx} {g : G} {ER : EK} {pos p : Pos} {tg e : Expr} {m : M} {ma : MA}
def isL : D → Bool
  | .lst _ => true
  | _ => false
theorem Rp.seqT {A : Addr → Prop} {H : Hp} {v : V} {d : D} {ds : List D} (r : Rp g A H v d) (e0 : seqW d = some ds) (hl : isL d = false) : ∃ a xs, v = .ref a ∧ ((H a = some (.tup xs) ∧ ¬ A a) ∨ KT g.K A H a xs) ∧ RpA g A H xs ds := by
  have e := seqW_ok e0
  cases r with
  | lst h n hl q => cases hl
  | tup h n hl' q => cases Option.some.inj e; exact ⟨_, _, rfl, .inl ⟨h, n⟩, hl', q⟩
  | ktup h hl' q => cases Option.some.inj e; exact ⟨_, _, rfl, .inr h, hl', q⟩
  | kls _ _ _ _ => cases e0
  | klw _ _ _ => cases e0
  | _ => cases e
theorem pi_mSeq (hk : X.K = g.K) (he : PE X e (tM g ER m)) : PI X tg e (tMI g ER (miSeq m)) := by
  refine PIi (PI.or (pi_list he) (pi_tup he)) fun σ H R h => ?_
  obtain ⟨ρ, st, s, h⟩ := h
  have hb := OutC.bind h
  cases e1 : m st with
  | no => rw [e1] at hb; exact hb.elim
  | er c vs st' => exact .inl ⟨ρ, st, s, by rw [e1] at hb ⊢; exact hb⟩
  | ok d st1 =>
    rw [e1] at hb
    cases e2 : seqW d with
    | none =>
      refine .inl ⟨ρ, st, s, ?_⟩
      rw [e1]
      intro ρ1 H1 x1 s1 v rv
      have q : OutC ER ρ1 st1 H1 (optO (seqW d) st1) _ := hb ρ1 H1 x1
      rw [e2] at q
      exact q.elim
    | some ds =>
      cases hl : isL d with
      | true =>
        refine .inl ⟨ρ, st, s, ?_⟩
        rw [e1]
        intro ρ1 H1 x1 s1 v rv
        have q : OutC ER ρ1 st1 H1 (optO (seqW d) st1) _ := hb ρ1 H1 x1
        rw [e2] at q
        cases d with
        | lst ds' =>
          cases Option.some.inj (seqW_ok e2)
          obtain ⟨a, xs, rfl, ha, na, ra⟩ := rv.inv_lst
          rw [hk]
          exact ⟨a, rfl, ⟨xs, SqL.of ha⟩, q ρ1 H1 Ext.refl s1 _ (it_list ha na ra)⟩
        | _ => cases hl
      | false =>
        refine .inr ⟨ρ, st, s, ?_⟩
        rw [e1]
        intro ρ1 H1 x1 s1 v rv
        have q : OutC ER ρ1 st1 H1 (optO (seqW d) st1) _ := hb ρ1 H1 x1
        rw [e2] at q
        obtain ⟨a, xs, rfl, ha, ra⟩ := rv.seqT e2 hl
        rw [hk]
        refine ⟨a, rfl, ⟨xs, ?_⟩, q ρ1 H1 Ext.refl s1 _ (it_tup ha ra)⟩
        rcases ha with ⟨h, _⟩ | h
        · exact SqT.of h
        · exact h.sq
def miFun (f : List D → Option (List D)) (ma : MA) : MI := fun st => bindO (ma st) fun ds st1 => optO (f ds) st1
def rangeF : List D → Option (List D)
  | [.int j] => if -4611686018427387904 ≤ j ∧ j < 4611686018427387904 then some ((List.range j.toNat).map fun i => D.int (0 + (i : Nat))) else none
  | _ => none
theorem pi_mRange {a : Expr} (hg : Gl X "range") (hm : X.mg "range" = none) (ha : PA X [a] (tMA g ER ma)) (hs : starEach [a] X.env = [(false, eval a X.env)] := by rfl) : PI X tg (.Call (.Name "range" p) [a] [] pos) (tMI g ER (miFun rangeF ma)) := by
  refine PIi (pi_range1 hg hm ha hs) fun σ H R h => ?_
  obtain ⟨ρ, st, s, h⟩ := h
  refine ⟨ρ, st, s, (OutC.bind h).mono fun ds st1 ρ1 H1 _ h1 s1 vs rs => ?_⟩
  cases e1 : rangeF ds with
  | none => rw [e1] at h1; exact h1.elim
  | some es =>
    rw [e1] at h1
    unfold rangeF at e1
    split at e1
    · rename_i j
      split at e1
      · rename_i hz
        cases Option.some.inj e1
        obtain ⟨v, rfl, r⟩ := rs.one
        exact ⟨j, by rw [r.inv_int], by omega, by omega, h1 ρ1 H1 Ext.refl s1 _ it_range⟩
      · cases e1
    · cases e1
def enumF : List D → Option (List D)
  | [.lst ds] => some (enumFrom 0 ds)
  | _ => none
theorem pi_mEnum {a : Expr} {elts : List Expr} {kk : Nat} {tpos : Pos} (hk : X.K = g.K) (hg : Gl X "enumerate") (hm : X.mg "enumerate" = none) (ha : PA X [a] (tMA g ER ma)) (hs : starEach [a] X.env = [(false, eval a X.env)] := by rfl) : PI X (.Tuple elts kk tpos) (.Call (.Name "enumerate" p) [a] [] pos) (tMI g ER (miFun enumF ma)) := by
  refine PIi (pi_enum hg hm ha hs) fun σ H R h => ?_
  obtain ⟨ρ, st, s, h⟩ := h
  refine ⟨ρ, st, s, (OutC.bind h).mono fun ds st1 ρ1 H1 _ h1 s1 vs rs => ?_⟩
  cases e1 : enumF ds with
  | none => rw [e1] at h1; exact h1.elim
  | some es =>
    rw [e1] at h1
    unfold enumF at e1
    split at e1
    · cases Option.some.inj e1
      obtain ⟨v, rfl, r⟩ := rs.one
      obtain ⟨a, xs, rfl, ha, na, ra⟩ := r.inv_lst
      rw [hk]
      exact ⟨a, xs, rfl, SqL.of ha, h1 ρ1 H1 Ext.refl s1 _ (it_enum ha na ra)⟩
    · cases e1
/-- zip of two lists, of two tuples -/
def zipF : List D → Option (List D)
  | [d, e] => match seqW d, seqW e with
    | some ds, some es => if isL d = isL e then some (zipD ds es) else none
    | _, _ => none
  | _ => none
theorem pi_mZip {a b : Expr} {elts : List Expr} {kk : Nat} {tpos : Pos} (hk : X.K = g.K) (hg : Gl X "zip") (hm : X.mg "zip" = none) (ha : PA X [a, b] (tMA g ER ma))
    (hs : starEach [a, b] X.env = (false, eval a X.env) :: starEach [b] X.env := by rfl) (hpl : (backTo pos (starEach [b] X.env)).any (·.1) = false := by rfl) : PI X (.Tuple elts kk tpos) (.Call (.Name "zip" p) [a, b] [] pos) (tMI g ER (miFun zipF ma)) := by
  refine PIi (RZ.pi_zipA hg hm ha hs hpl) fun σ H R h => ?_
  obtain ⟨ρ, st, s, h⟩ := h
  refine ⟨ρ, st, s, (OutC.bind h).mono fun ds st1 ρ1 H1 _ h1 s1 vs rs => ?_⟩
  cases e1 : zipF ds with
  | none => rw [e1] at h1; exact h1.elim
  | some es =>
    rw [e1] at h1
    unfold zipF at e1
    split at e1
    · rename_i d e'
      obtain ⟨v, u, rfl, r1, r2⟩ := rs.two
      cases f1 : seqW d with
      | none => simp only [f1] at e1; cases e1
      | some xs =>
        cases f2 : seqW e' with
        | none => simp only [f1, f2] at e1; cases e1
        | some ys =>
          simp only [f1, f2] at e1
          split at e1
          · rename_i hl
            cases Option.some.inj e1
            rw [hk]
            cases hd : isL d with
            | true =>
              rw [hd] at hl
              cases d with
              | lst d1 =>
                cases e' with
                | lst e1 =>
                  cases Option.some.inj (seqW_ok f1)
                  cases Option.some.inj (seqW_ok f2)
                  obtain ⟨a, xs, rfl, ha, na, ra⟩ := r1.inv_lst
                  obtain ⟨b, ys, rfl, hb, nb, rb⟩ := r2.inv_lst
                  exact ⟨a, b, xs, ys, rfl, .inl ⟨SqL.of ha, SqL.of hb, h1 ρ1 H1 Ext.refl s1 _ (it_zipL ha na ra hb nb rb)⟩⟩
                | _ => cases hl
              | _ => cases hd
            | false =>
              rw [hd] at hl
              obtain ⟨a, xs, rfl, ha, ra⟩ := r1.seqT f1 hd
              obtain ⟨b, ys, rfl, hb, rb⟩ := r2.seqT f2 hl.symm
              refine ⟨a, b, xs, ys, rfl, .inr ⟨?_, ?_, h1 ρ1 H1 Ext.refl s1 _ (it_zipT ha ra hb rb)⟩⟩
              · rcases ha with ⟨h, _⟩ | h
                · exact SqT.of h
                · exact h.sq
              · rcases hb with ⟨h, _⟩ | h
                · exact SqT.of h
                · exact h.sq
          · cases e1
    · cases e1
end
end RE
set_option maxHeartbeats 2000000
namespace RE
open PySem PySem.Spec PyProof.Rows L2
abbrev Tg := D → S → Option S
/-- a target: what it stores; is: the slots that it stores -/
def GOk (g : G) (tg : Tg) (t : TG) (is : List Nat) : Prop := ∀ (ρ : Rh) (σ : L2.St) (H : Hp) (st : S) (x : V) (d : D) (st' : S) (Q : L2.St → Hp → Prop), tg d st = some st' → Sim g ρ σ H st → Rp g (Vol ρ st) H x d →
  (∀ σ', Sim g ρ σ' H st' → st'.ce = st.ce → (∀ vs : List Nat, (∀ i ∈ is, i ∈ vs) → wipe σ' vs = wipe σ vs) → Q σ' H) → t x σ H Q
theorem wipe_set {σ : L2.St} {i : Nat} {v : Option V} : ∀ {vs : List Nat}, i ∈ vs → wipe (σ.set i v) vs = wipe σ vs
  | [], h => by simp at h
  | j :: vs, h => by
    unfold wipe
    by_cases e : i = j
    · subst e
      by_cases hm : i ∈ vs
      · rw [wipe_set hm]
      · have q : ∀ (ws : List Nat), i ∉ ws → wipe (σ.set i v) ws = (wipe σ ws).set i v := by
          intro ws
          induction ws with
          | nil => intro _; rfl
          | cons k ws ih =>
            intro hk
            unfold wipe
            rw [ih (fun z => hk (List.mem_cons_of_mem _ z)), List.set_comm _ _ (fun z => hk (by rw [z]; exact List.mem_cons_self))]
        rw [q vs hm, List.set_set]
    · rw [wipe_set (by rcases List.mem_cons.mp h with z | z; exact absurd z e; exact z)]
def tgName (i : Nat) : Tg := fun d st => some (st.put i (.d d))
theorem gok_name {g : G} (i : Nat) : GOk g (tgName i) (gName i) [i] := by
  intro ρ σ H st x d st' Q e s r k
  cases Option.some.inj e
  exact k _ (s.put i ⟨x, rfl, r⟩) rfl fun vs h => wipe_set (h i (by simp))
/-- stores item by item -/
def putsD : List Nat → List D → S → Option S
  | [], [], st => some st
  | i :: is, d :: ds, st => putsD is ds (st.put i (.d d))
  | _, _, _ => none
def gNames : List Nat → TGs
  | [] => gNil
  | i :: is => gCons (gName i) (gNames is)
theorem gok_names {g : G} : ∀ (is : List Nat) (ρ : Rh) (σ : L2.St) (H : Hp) (st : S) (xs : List V) (ds : List D) (st' : S) (Q : L2.St → Hp → Prop), putsD is ds st = some st' → Sim g ρ σ H st → RpA g (Vol ρ st) H xs ds →
    (∀ σ', Sim g ρ σ' H st' → st'.ce = st.ce → (∀ vs : List Nat, (∀ i ∈ is, i ∈ vs) → wipe σ' vs = wipe σ vs) → Q σ' H) → gNames is xs σ H Q
  | [], ρ, σ, H, st, xs, [], st', Q, e, s, r, k => by
    cases Option.some.inj e
    exact ⟨r.cases_nil, k σ s rfl fun _ _ => rfl⟩
  | [], ρ, σ, H, st, xs, d :: ds, st', Q, e, s, r, k => by cases e
  | i :: is, ρ, σ, H, st, xs, [], st', Q, e, s, r, k => by cases e
  | i :: is, ρ, σ, H, st, xs, d :: ds, st', Q, e, s, r, k => by
    obtain ⟨x, ys, rfl, r1, r2⟩ := r.cases_cons
    refine ⟨x, ys, rfl, ?_⟩
    have s1 := s.put i (v := x) (sl := .d d) ⟨x, rfl, r1⟩
    refine gok_names is ρ _ H _ ys ds st' Q e s1 (r2.ext fun a o h n => ⟨h, n⟩) fun σ' s' ce w => k σ' s' ce fun vs h => ?_
    rw [w vs fun j hj => h j (List.mem_cons_of_mem _ hj), wipe_set (h i List.mem_cons_self)]
def tgTup (is : List Nat) : Tg := fun d st => match d with
  | .tup ds => putsD is ds st
  | .kt ds => putsD is ds st
  | _ => none
theorem gok_tup {g : G} (is : List Nat) : GOk g (tgTup is) (gTup g.K is.length (gNames is)) is := by
  intro ρ σ H st x d st' Q e s r k
  have hl : ∀ (is : List Nat) (ds : List D) (st st' : S), putsD is ds st = some st' → ds.length = is.length := by
    intro is
    induction is with
    | nil => intro ds st st' h; cases ds with
      | nil => rfl
      | cons _ _ => cases h
    | cons i is ih => intro ds st st' h; cases ds with
      | nil => cases h
      | cons d ds => show ds.length + 1 = is.length + 1; rw [ih ds _ _ h]
  cases d with
  | tup ds =>
    obtain ⟨a, xs, rfl, ha, _, ra⟩ := r.inv_tup
    exact ⟨a, xs, rfl, SqT.of ha, by rw [ra.1]; exact hl is ds st st' e, gok_names is ρ σ H st xs ds st' Q e s ra k⟩
  | kt ds =>
    obtain ⟨a, xs, rfl, ha, ra⟩ := r.inv_kt
    exact ⟨a, xs, rfl, ha.sq, by rw [ra.1]; exact hl is ds st st' e, gok_names is ρ σ H st xs ds st' Q e s ra k⟩
  | _ => cases e
def mTo (tg : Tg) (m : M) : MS := fun st => bindS (m st) fun d st1 => match tg d st1 with
  | some st2 => .nx st2
  | none => .no
section
variable {X : Cx} {g : G} {ER : EK} {pos : Pos}
theorem ps_mTo {tg e : Expr} {m : M} {t : TG} {tgd : Tg} {is : List Nat} (he : PE X e (tM g ER m)) (hg : PG X tg t) (ok : GOk g tgd t is) (hs : swapsWithSole [tg] e pos.line X.env = pure false := by rfl) (hw : swappedStores [tg] e X.env = pure none := by rfl)
    (h1 : (assignEach [tg] X.env).map (·.2) = [assign tg X.env] := by rfl) : PS X (.Assign [tg] e pos) (tMS g ER (mTo tgd m)) := by
  refine PSi (ps_asg he hg hs hw h1) fun E σ H h => ?_
  obtain ⟨ρ, st, s, h⟩ := h
  refine ⟨ρ, st, s, (OutS.bind h).mono fun d st1 ρ1 H1 _ h1 s1 v rv => ?_⟩
  cases e1 : tgd d st1 with
  | none => simp only [e1] at h1; exact h1.elim
  | some st2 =>
    simp only [e1] at h1
    exact ok ρ1 σ H1 st1 v d st2 _ e1 s1 rv fun σ' s' ce _ => h1 ρ1 σ' H1 (Ext.refl.ce ce) s'
/-- a, b = x, y: both, then stored -/
def mPar (is : List Nat) (ma : MA) : MS := fun st => bindS (ma st) fun ds st1 => match putsD is ds st1 with
  | some st2 => .nx st2
  | none => .no
theorem ps_mPar {i j : Nat} {x y : Str} {a b : Expr} {ma : MA} {px py pt : Pos} {kt k2 pt2} (hc : X.calm = true) (hN : X.N.Nodup) (hi : X.N[i]? = some x) (hj : X.N[j]? = some y) (hij : i ≠ j)
    (hx : X.env.scope.names.lookup x = some .local) (hy : X.env.scope.names.lookup y = some .local) (ha : PA X [a, b] (tMA g ER ma)) (hw : swappedStores [.Tuple [.Name x px, .Name y py] kt pt] (.Tuple [a, b] k2 pt2) X.env = pure (some [x, y])) (hs : swapsWithSole [.Tuple [.Name x px, .Name y py] kt pt] (.Tuple [a, b] k2 pt2) pos.line X.env = pure false := by rfl) :
    PS X (.Assign [.Tuple [.Name x px, .Name y py] kt pt] (.Tuple [a, b] k2 pt2) pos) (tMS g ER (mPar [i, j] ma)) := by
  refine PSi (ps_par hc hN hi hj hij hx hy ha hw hs) fun E σ H h => ?_
  obtain ⟨ρ, st, s, h⟩ := h
  refine ⟨ρ, st, s, (OutS.bind h).mono fun ds st1 ρ1 H1 _ h1 s1 vs rs => ?_⟩
  match ds, vs, rs, h1 with
  | [], _, _, h1 => exact h1.elim
  | [_], _, _, h1 => exact h1.elim
  | [d, e], vs, rs, h1 =>
    obtain ⟨v, u, rfl, r1, r2⟩ := rs.two
    refine ⟨v, u, rfl, ?_⟩
    have s2 := s1.put i (v := v) (sl := .d d) ⟨v, rfl, r1⟩
    have s3 := s2.put j (v := u) (sl := .d e) ⟨u, rfl, r2.ext fun a o h n => ⟨h, n⟩⟩
    exact h1 ρ1 _ H1 (Ext.refl.ce rfl) s3
  | _ :: _ :: _ :: _, _, _, h1 => exact h1.elim
theorem ps_mPar3 {i j l : Nat} {x y z : Str} {a b c : Expr} {ma : MA} {px py pz pt : Pos} {kt k2 pt2} (hc : X.calm = true) (hN : X.N.Nodup) (hi : X.N[i]? = some x) (hj : X.N[j]? = some y) (hl : X.N[l]? = some z) (hij : i ≠ j) (hil : i ≠ l) (hjl : j ≠ l)
    (hx : X.env.scope.names.lookup x = some .local) (hy : X.env.scope.names.lookup y = some .local) (hz : X.env.scope.names.lookup z = some .local) (ha : PA X [a, b, c] (tMA g ER ma)) (hw : swappedStores [.Tuple [.Name x px, .Name y py, .Name z pz] kt pt] (.Tuple [a, b, c] k2 pt2) X.env = pure (some [x, y, z])) (hs : swapsWithSole [.Tuple [.Name x px, .Name y py, .Name z pz] kt pt] (.Tuple [a, b, c] k2 pt2) pos.line X.env = pure false := by rfl) :
    PS X (.Assign [.Tuple [.Name x px, .Name y py, .Name z pz] kt pt] (.Tuple [a, b, c] k2 pt2) pos) (tMS g ER (mPar [i, j, l] ma)) := by
  refine PSi (ps_par3 hc hN hi hj hl hij hil hjl hx hy hz ha hw hs) fun E σ H h => ?_
  obtain ⟨ρ, st, s, h⟩ := h
  refine ⟨ρ, st, s, (OutS.bind h).mono fun ds st1 ρ1 H1 _ h1 s1 vs rs => ?_⟩
  match ds, vs, rs, h1 with
  | [], _, _, h1 => exact h1.elim
  | [_], _, _, h1 => exact h1.elim
  | [_, _], _, _, h1 => exact h1.elim
  | [d, e, f], vs, rs, h1 =>
    obtain ⟨v, vs', rfl, r1, rs'⟩ := rs.cases_cons
    obtain ⟨u, t, rfl, r2, r3⟩ := rs'.two
    refine ⟨v, u, t, rfl, ?_⟩
    have s2 := s1.put i (v := v) (sl := .d d) ⟨v, rfl, r1⟩
    have s3 := s2.put j (v := u) (sl := .d e) ⟨u, rfl, r2.ext fun a o h n => ⟨h, n⟩⟩
    have s4 := s3.put l (v := t) (sl := .d f) ⟨t, rfl, r3.ext fun a o h n => ⟨h, n⟩⟩
    exact h1 ρ1 _ H1 (Ext.refl.ce rfl) s4
  | _ :: _ :: _ :: _ :: _, _, _, h1 => exact h1.elim
def loopS (tg : Tg) (body : MS) : List D → S → SO
  | [], st => .nx st
  | d :: ds, st => match tg d st with
    | none => .no
    | some st1 => match body st1 with
      | .nx st2 => loopS tg body ds st2
      | .ct st2 => loopS tg body ds st2
      | .bk st2 => .nx st2
      | o => o
def mFor (mi : MI) (tg : Tg) (body : MS) : MS := fun st => bindS (mi st) fun ds st1 => loopS tg body ds st1
theorem Ext.like {ρ : Rh} {H H' : Hp} {σ : L2.St} {st : S} (s : Sim g ρ σ H st) (h : H' = H ∨ ∃ p o, H p = none ∧ H' = upd H p o) : Ext ρ st H ρ st H' ∧ Sim g ρ σ H' st := by
  rcases h with h | ⟨p, o, hp, h⟩
  · rw [h]; exact ⟨Ext.refl, s⟩
  · rw [h]; exact ⟨Ext.new s hp, s.new hp⟩
theorem for_core {t : TG} {tgd : Tg} {is : List Nat} {mb : MS} {ds : List D} {J : It} {ρ0 : Rh} {st0 : S} {σ0 : L2.St} {H0 : Hp} {E : Ends} (ok : GOk g tgd t is) (s0 : Sim g ρ0 σ0 H0 st0) (h0 : OutS g ER ρ0 st0 H0 (loopS tgd mb ds st0) E) (hJ : ItOk g ρ0 st0 H0 J ds) :
    ∃ W : Nat → Nat → L2.St → Hp → Prop, (∃ m, W 0 m σ0 H0) ∧ ∀ i m σ H, W i m σ H → (J.stop i H ∧ E.nx σ H) ∨ (J.go i H ∧ ∃ N : L2.St → Hp → Prop, (∀ σ' H', N σ' H' → ∃ m', m' < m ∧ W (i + 1) m' σ' H') ∧ ∀ x H', J.yld i H x H' → t x σ H' fun σ2 H2 => tMS g ER mb { E with nx := N, ct := N, bk := E.nx } σ2 H2) := by
  refine ⟨fun i m σ' H' => ∃ ρ' st', Ext ρ0 st0 H0 ρ' st' H' ∧ Sim g ρ' σ' H' st' ∧ m = ds.length - i ∧ i ≤ ds.length ∧ OutS g ER ρ' st' H' (loopS tgd mb (ds.drop i) st') E, ⟨ds.length, ρ0, st0, Ext.refl, s0, rfl, Nat.zero_le _, h0⟩, ?_⟩
  rintro i m σ1 H1 ⟨ρ1, st1, x1, s1, rfl, hi, h1⟩
  by_cases hlt : i < ds.length
  · have hd : ds.drop i = ds[i] :: ds.drop (i + 1) := List.drop_eq_getElem_cons hlt
    rw [hd] at h1
    unfold loopS at h1
    have hget : ds[i]? = some ds[i] := List.getElem?_eq_getElem hlt
    obtain ⟨go, yl⟩ := (hJ (Vol ρ1 st1) H1 x1.keep (fun a v => s1.volT v) i).1 _ hget
    refine .inr ⟨go, fun σ' H' => ∃ ρ' st', Ext ρ0 st0 H0 ρ' st' H' ∧ Sim g ρ' σ' H' st' ∧ OutS g ER ρ' st' H' (loopS tgd mb (ds.drop (i + 1)) st') E, fun σ' H' ⟨ρ', st', a, b, c⟩ => ⟨ds.length - (i + 1), by omega, ρ', st', a, b, rfl, hlt, c⟩, fun x H2 hy => ?_⟩
    obtain ⟨hH, hr⟩ := yl x H2 hy
    obtain ⟨x2, s2⟩ := Ext.like s1 hH
    have r2 := hr
    cases e1 : tgd ds[i] st1 with
    | none => rw [e1] at h1; exact h1.elim
    | some st3 =>
      rw [e1] at h1
      refine ok ρ1 σ1 H2 st1 x _ st3 _ e1 s2 r2 fun σ3 s3 ce _ => ⟨ρ1, st3, s3, ?_⟩
      have x3 : Ext ρ1 st1 H1 ρ1 st3 H2 := x2.trans ⟨fun a o h n => ⟨h, fun v => n ((Vol.ce ce a).mp v)⟩, fun _ _ h => h, rfl, fun _ _ => rfl, fun a v => .inl ((Vol.ce ce a).mp v), fun _ h => h⟩
      have h1 : OutS g ER ρ1 st1 H1 (match mb st3 with | .nx st2 => loopS tgd mb (ds.drop (i + 1)) st2 | .ct st2 => loopS tgd mb (ds.drop (i + 1)) st2 | .bk st2 => .nx st2 | o => o) E := h1
      cases e2 : mb st3 with
      | nx st4 => rw [e2] at h1; exact fun ρ4 σ4 H4 x4 s4 => ⟨ρ4, st4, (x1.trans x3).trans x4, s4, OutS.later h1 (x3.trans x4)⟩
      | ct st4 => rw [e2] at h1; exact fun ρ4 σ4 H4 x4 s4 => ⟨ρ4, st4, (x1.trans x3).trans x4, s4, OutS.later h1 (x3.trans x4)⟩
      | bk st4 => rw [e2] at h1; exact fun ρ4 σ4 H4 x4 s4 => h1 ρ4 σ4 H4 (x3.trans x4) s4
      | rt d st4 => rw [e2] at h1; exact fun ρ4 σ4 H4 v x4 s4 r => h1 ρ4 σ4 H4 v (x3.trans x4) s4 r
      | er c vs st4 => rw [e2] at h1; exact fun ρ4 H4 x4 => h1 ρ4 H4 (x3.trans x4)
      | no => rw [e2] at h1; exact h1.elim
  · have e : i = ds.length := by omega
    subst e
    rw [List.drop_length] at h1
    exact .inl ⟨(hJ (Vol ρ1 st1) H1 x1.keep (fun a v => s1.volT v) _).2 (Nat.le_refl _), h1 ρ1 σ1 H1 Ext.refl s1⟩
theorem ps_mFor {iter tg : Expr} {body : List Stmt} {mi : MI} {t : TG} {tgd : Tg} {is : List Nat} {mb : MS} (hp : PassesOwn (model X.prog X.w) X.A X.env X.xe) (hc : X.calm = true) (hi : PI X tg iter (tMI g ER mi)) (hg : PG X tg t) (ok : GOk g tgd t is) (hb : PSs X body (tMS g ER mb)) (hs : ∀ x, foldedSetIterable iter X.env x = pure x := by intro _; rfl) : PS X (.For tg iter body [] pos) (tMS g ER (mFor mi tgd mb)) := by
  refine PSi (ps_for hp hc hi hg hb hs) fun E σ H h => ?_
  obtain ⟨ρ, st, s, h⟩ := h
  exact ⟨ρ, st, s, (OutS.bind h).mono fun ds st0 ρ0 H0 _ h0 s0 J hJ => for_core ok s0 h0 hJ⟩
end
end RE
set_option maxHeartbeats 2000000
namespace RE
open PySem PySem.Spec PyProof.Rows L2
def wipeS (sl : List Sl) : List Nat → List Sl
  | [] => sl
  | v :: vs => (wipeS sl vs).set v .no
theorem wipe_set_none (σ : L2.St) (j : Nat) : ∀ vs : List Nat, wipe (σ.set j none) vs = (wipe σ vs).set j none
  | [] => rfl
  | k :: ws => by
    show (wipe (σ.set j none) ws).set k none = ((wipe σ ws).set k none).set j none
    rw [wipe_set_none σ j ws]
    by_cases e : k = j
    · rw [e]
    · exact List.set_comm _ _ (fun z => e z.symm)
theorem wipe_wipe (σ : L2.St) : ∀ vs ws : List Nat, (∀ i ∈ vs, i ∈ ws) → wipe (wipe σ vs) ws = wipe σ ws
  | [], ws, _ => rfl
  | v :: vs, ws, h => by
    show wipe ((wipe σ vs).set v none) ws = wipe σ ws
    rw [wipe_set (h v List.mem_cons_self)]
    exact wipe_wipe σ vs ws fun i hi => h i (List.mem_cons_of_mem _ hi)
def S.with (st : S) (ce : List Ce) : S := ⟨st.sl, ce⟩
def Rh.ent (ρ : Rh) (p : Addr) : Rh := ⟨ρ.ad, fun a => ρ.U a ∨ a = p⟩
def Rh.lev (ρ : Rh) (U : Addr → Prop) : Rh := ⟨ρ.ad, U⟩
section
variable {g : G} {ρ ρ' ρ1 ρ2 : Rh} {σ σ' : L2.St} {H H' H0 H1 H2 : Hp} {st st' st0 st1 st2 : S} {p : Addr} {o : HO}
theorem Sim.setNo (s : Sim g ρ σ H st) (i : Nat) : Sim g ρ (σ.set i none) H ⟨st.sl.set i .no, st.ce⟩ where
  toCells := ⟨s.uok, s.clen, s.cell, s.inj, s.out⟩
  len := by show (σ.set i none).length = (st.sl.set i .no).length; rw [List.length_set, List.length_set, s.len]
  slot := fun j sl v h1 h2 => by
    have h1 : (st.sl.set i .no)[j]? = some sl := h1
    rw [List.getElem?_set] at h1 h2
    by_cases e : i = j
    · rw [if_pos e] at h1
      split at h1
      · cases Option.some.inj h1; trivial
      · cases h1
    · rw [if_neg e] at h1 h2
      exact s.slot j sl v h1 h2
theorem Sim.wipe (s : Sim g ρ σ H st) : ∀ vs : List Nat, Sim g ρ (L2.wipe σ vs) H ⟨wipeS st.sl vs, st.ce⟩
  | [] => s
  | v :: vs => (Sim.wipe s vs).setNo v
theorem vol_ent {a : Addr} : Vol (ρ.ent p) st a ↔ Vol ρ st a ∨ a = p := by
  constructor
  · rintro ((h | h) | h)
    · exact .inl (.inl h)
    · exact .inr h
    · exact .inl (.inr h)
  · rintro ((h | h) | h)
    · exact .inl (.inl h)
    · exact .inr h
    · exact .inl (.inr h)
theorem keep_ent (s : Sim g ρ σ H st) (hp : H p = none) : ∀ a u, H a = some u → ¬ Vol ρ st a → upd H p o a = some u ∧ ¬ Vol (ρ.ent p) st a := fun a u h n =>
  ⟨by rw [upd_ne (ne_of_none h hp)]; exact h, fun v => by
    rcases vol_ent.mp v with v | v
    · exact n v
    · rw [v, hp] at h; cases h⟩
theorem Cells.ent (s : Sim g ρ σ H st) (hp : H p = none) (no : NT o) : Cells g (ρ.ent p) (upd H p o) st where
  uok := fun a h => by
    by_cases e : a = p
    · exact ⟨o, by rw [e]; exact upd_same, no⟩
    · rcases h with h | h
      · obtain ⟨u, hu, nt⟩ := s.uok a h
        exact ⟨u, by rw [upd_ne e]; exact hu, nt⟩
      · exact absurd h e
  clen := s.clen
  cell := fun k c a h1 h2 => by
    have q := s.cell k c a h1 h2
    by_cases hc : c.alive = true
    · obtain ⟨u, hu⟩ := s.vol (a := a) (.inr ⟨k, c, h1, hc, h2⟩)
      exact q.ext (upd_ne (ne_of_none hu hp)) (keep_ent s hp)
    · cases c <;> first | trivial | exact absurd rfl hc
  inj := s.inj
  out := fun k c a h1 hc h2 v => by
    rcases v with v | v
    · exact s.out k c a h1 hc h2 v
    · obtain ⟨u, hu⟩ := s.vol (a := a) (.inr ⟨k, c, h1, hc, h2⟩)
      rw [v, hp] at hu; cases hu
theorem SlOk.ext {A A' : Addr → Prop} {v : Option V} {sl : Sl} (h : SlOk g A ρ H v sl) (k : ∀ a o, H a = some o → ¬ A a → H' a = some o ∧ ¬ A' a) (pre : ∀ (k : Nat) a, ρ.ad[k]? = some a → ρ'.ad[k]? = some a) : SlOk g A' ρ' H' v sl := by
  cases sl with
  | no => trivial
  | d x => obtain ⟨u, e, r⟩ := h; exact ⟨u, e, r.ext k⟩
  | rf j => obtain ⟨a, e, q⟩ := h; exact ⟨a, e, pre j a q⟩
theorem Sim.ent (s : Sim g ρ σ H st) (hp : H p = none) (no : NT o) : Sim g (ρ.ent p) σ (upd H p o) st where
  toCells := Cells.ent s hp no
  len := s.len
  slot := fun i sl v h1 h2 => (s.slot i sl v h1 h2).ext (keep_ent s hp) fun _ _ h => h
theorem vol_lev {U : Addr → Prop} (hU : ∀ a, U a → ρ.U a) {a : Addr} (h : Vol (ρ.lev U) st a) : Vol ρ st a := h.imp (hU a) id
theorem Cells.lev (s : Cells g ρ H st) {U : Addr → Prop} (hU : ∀ a, U a → ρ.U a) : Cells g (ρ.lev U) H st where
  uok := fun a h => s.uok a (hU a h)
  clen := s.clen
  cell := fun k c a h1 h2 => (s.cell k c a h1 h2).ext rfl fun _ _ h n => ⟨h, fun v => n (vol_lev hU v)⟩
  inj := s.inj
  out := fun k c a h1 hc h2 v => s.out k c a h1 hc h2 (hU a v)
theorem Sim.lev (s : Sim g ρ σ H st) {U : Addr → Prop} (hU : ∀ a, U a → ρ.U a) : Sim g (ρ.lev U) σ H st where
  toCells := s.toCells.lev hU
  len := s.len
  slot := fun i sl v h1 h2 => (s.slot i sl v h1 h2).ext (fun _ _ h n => ⟨h, fun v => n (vol_lev hU v)⟩) fun _ _ h => h
/-- what is behind a stretch with p not spoken of -/
theorem Ext.step_lev (e0 : Ext ρ st0 H0 (ρ1.lev ρ.U) st1 H1) (hU : ρ1.U = (ρ.ent p).U) (h0 : H0 p = none) (e : Ext ρ1 st1 H1 ρ2 st2 H2) : Ext ρ st0 H0 (ρ2.lev ρ.U) st2 H2 where
  keep := fun a u h n => by
    obtain ⟨h1, n1⟩ := e0.keep a u h n
    have n2 : ¬ Vol ρ1 st1 a := by
      rintro (v | v)
      · rw [hU] at v
        rcases v with v | v
        · exact n1 (.inl v)
        · rw [v, h0] at h; cases h
      · exact n1 (.inr v)
    obtain ⟨h3, n3⟩ := e.keep a u h1 n2
    refine ⟨h3, fun v => n3 (vol_lev (fun b hb => ?_) v)⟩
    rw [e.same, hU]; exact .inl hb
  pre := fun k a h => e.pre k a (e0.pre k a h)
  same := rfl
  un := fun a h => by
    rw [e.un a (by rw [hU]; exact .inl h)]
    exact e0.un a h
  more := fun a v => by
    have v' : Vol ρ2 st2 a := vol_lev (fun b hb => by rw [e.same, hU]; exact .inl hb) v
    rcases e.more a v' with (v1 | v1) | v1
    · rw [hU] at v1
      rcases v1 with v1 | v1
      · exact e0.more a (.inl v1)
      · right; rw [v1]; exact h0
    · exact e0.more a (.inr v1)
    · exact .inr (e0.mono a v1)
  mono := fun a h => e0.mono a (e.mono a h)
theorem Ext.touch (e0 : Ext ρ st0 H0 ρ1 st1 H1) (h0 : H0 p = none) (su : ∀ a, ρ.U a → ∃ u, H0 a = some u) : Ext ρ st0 H0 ρ1 st1 (upd H1 p o) where
  keep := fun a u h n => by
    rw [upd_ne (ne_of_none h h0)]
    exact e0.keep a u h n
  pre := e0.pre
  same := e0.same
  un := fun a h => by
    obtain ⟨u, hu⟩ := su a h
    rw [upd_ne (ne_of_none hu h0)]
    exact e0.un a h
  more := e0.more
  mono := fun a h => by
    by_cases e : a = p
    · rw [e]; exact h0
    · rw [upd_ne e] at h; exact e0.mono a h
/-- an object that is not spoken of may be written -/
theorem keep_touch (u : ρ.U p) : ∀ a q, H a = some q → ¬ Vol ρ st a → upd H p o a = some q ∧ ¬ Vol ρ st a := fun a q h n =>
  ⟨by rw [upd_ne (fun e => n (.inl (by rw [e]; exact u)))]; exact h, n⟩
theorem nt_l {xs : List V} : NT (.lst xs) := fun _ z => by cases z
theorem Cells.touch (s : Cells g ρ H st) (u : ρ.U p) (no : NT o) : Cells g ρ (upd H p o) st where
  uok := fun a h => by
    by_cases e : a = p
    · exact ⟨o, by rw [e]; exact upd_same, no⟩
    · rw [upd_ne e]; exact s.uok a h
  clen := s.clen
  cell := fun k c a h1 h2 => by
    by_cases hc : c.alive = true
    · exact (s.cell k c a h1 h2).ext (upd_ne fun e => s.out k c a h1 hc h2 (by rw [e]; exact u)) (keep_touch u)
    · cases c <;> first | trivial | exact absurd rfl hc
  inj := s.inj
  out := s.out
theorem Sim.touch (s : Sim g ρ σ H st) (u : ρ.U p) (no : NT o) : Sim g ρ σ (upd H p o) st where
  toCells := s.toCells.touch u no
  len := s.len
  slot := fun i sl v h1 h2 => (s.slot i sl v h1 h2).ext (keep_touch u) fun _ _ h => h
/-- the slots of an earlier state over the cells of a later one -/
theorem Sim.back (s : Sim g ρ σ H st) (e : Ext ρ st H ρ' st' H') (c : Cells g ρ' H' st') : Sim g ρ' σ H' (st.with st'.ce) where
  toCells := ⟨c.uok, c.clen, c.cell, c.inj, c.out⟩
  len := s.len
  slot := fun i sl v h1 h2 => (s.slot i sl v h1 h2).ext e.keep e.pre
end
def lcS (tg : Tg) (tt : MT) (me : M) (w : List Sl) : List D → List Ce → Option (List D × List Ce)
  | [], ce => some ([], ce)
  | d :: ds, ce => match tg d ⟨w, ce⟩ with
    | none => none
    | some st1 => match tt st1 with
      | .ok true st2 => match me st2 with
        | .ok x st3 => match lcS tg tt me w ds st3.ce with
          | some (xs, ce') => some (x :: xs, ce')
          | none => none
        | _ => none
      | .ok false st2 => lcS tg tt me w ds st2.ce
      | _ => none
def mLc (mi : MI) (tg : Tg) (tt : MT) (me : M) (vs : List Nat) : M := fun st => bindO (mi st) fun ds st1 => match lcS tg tt me (wipeS st1.sl vs) ds st1.ce with
  | some (xs, ce) => if xs.length ≤ 1000000 then .ok (.lst xs) (st1.with ce) else .no
  | none => .no
/-- a list that grows at p, not spoken of -/
structure Grow (g : G) (ρ0 : Rh) (st0 : S) (H0 : Hp) (σ : L2.St) (p : Addr) (ρ : Rh) (ce : List Ce) (H : Hp) (acc : List V) (ds : List D) : Prop where
  ext : Ext ρ0 st0 H0 (ρ.lev ρ0.U) (st0.with ce) H
  u : ρ.U = (ρ0.ent p).U
  sim : Sim g ρ σ H (st0.with ce)
  at' : H p = some (.lst acc)
  rp : RpA g (Vol ρ (st0.with ce)) H acc ds
section
variable {g : G} {ER : EK} {ρ0 ρ ρ' : Rh} {st0 st' : S} {H0 H H' : Hp} {σ σ' : L2.St} {p : Addr} {ce : List Ce} {acc : List V} {ds : List D}
theorem Ext.zero (hp : H p = none) (su : ∀ a, ρ.U a → ∃ u, H a = some u) {o : HO} {st : S} : Ext ρ st H ρ st (upd H p o) := Ext.touch Ext.refl hp su
theorem Grow.zero (s : Sim g ρ0 σ H0 st0) (hp : H0 p = none) : Grow g ρ0 st0 H0 σ p (ρ0.ent p) st0.ce (upd H0 p (.lst [])) [] [] where
  ext := Ext.zero hp s.uo
  u := rfl
  sim := s.ent hp nt_l
  at' := upd_same
  rp := RpA.nil
/-- the slots don't matter -/
theorem Ext.with {stw st1 : S} {ρ : Rh} {H : Hp} (e : Ext ρ stw H ρ' st' H') (hw : stw.ce = ce) : Ext ρ (st0.with ce) H ρ' (st1.with st'.ce) H' :=
  ⟨fun a o h n => e.keep a o h fun v => n ((Vol.ce hw a).mp v), e.pre, e.same, e.un, fun a v => (e.more a v).imp (Vol.ce hw a).mp id, e.mono⟩
/-- .. a stretch further -/
theorem Grow.go (G : Grow g ρ0 st0 H0 σ p ρ ce H acc ds) (h0 : H0 p = none) {stw : S} (hw : stw.ce = ce) (e : Ext ρ stw H ρ' st' H') (c : Cells g ρ' H' st') : Grow g ρ0 st0 H0 σ p ρ' st'.ce H' acc ds where
  ext := Ext.step_lev G.ext G.u h0 (e.with hw)
  u := e.same.trans G.u
  sim := G.sim.back (e.with hw) c
  at' := by rw [e.un p (by rw [G.u]; exact .inr rfl)]; exact G.at'
  rp := G.rp.go (e.with hw)
theorem Grow.push (G : Grow g ρ0 st0 H0 σ p ρ ce H acc ds) (h0 : H0 p = none) (su : ∀ a, ρ0.U a → ∃ u, H0 a = some u) {y : V} {d : D} (r : Rp g (Vol ρ (st0.with ce)) H y d) : Grow g ρ0 st0 H0 σ p ρ ce (upd H p (.lst (acc ++ [y]))) (acc ++ [y]) (ds ++ [d]) where
  ext := Ext.touch G.ext h0 su
  u := G.u
  sim := G.sim.touch (by rw [G.u]; exact .inr rfl) nt_l
  at' := upd_same
  rp := (G.rp.append (RpA.cons r RpA.nil)).ext (keep_touch (by rw [G.u]; exact .inr rfl))
theorem Grow.end (G : Grow g ρ0 st0 H0 σ p ρ ce H acc ds) (h0 : H0 p = none) (su : ∀ a, ρ0.U a → ∃ u, H0 a = some u) : Ext ρ0 st0 H0 (ρ.lev ρ0.U) (st0.with ce) H ∧ Sim g (ρ.lev ρ0.U) σ H (st0.with ce) ∧ Rp g (Vol (ρ.lev ρ0.U) (st0.with ce)) H (.ref p) (.lst ds) := by
  have hU : ∀ a, ρ0.U a → ρ.U a := fun a h => by rw [G.u]; exact .inl h
  refine ⟨G.ext, G.sim.lev hU, Rp.lst' G.at' ?_ (G.rp.ext fun a o h n => ⟨h, fun v => n (vol_lev hU v)⟩)⟩
  rintro (v | ⟨k, c, h1, hc, h2⟩)
  · obtain ⟨u, hu⟩ := su p v
    rw [h0] at hu; cases hu
  · exact G.sim.out k c p h1 hc h2 (by rw [G.u]; exact .inr rfl)
/-- the reading of a comprehension -/
theorem tM_lc {mi : MI} {tgd : Tg} {t : TG} {is vs : List Nat} {tt : MT} {me : M} (ok : GOk g tgd t is) (hv : ∀ i ∈ is, i ∈ vs) {σ : L2.St} {H : Hp} {Q : VK} (h : tM g ER (mLc mi tgd tt me vs) σ H Q) :
    tLc (tMI g ER mi) t (tMT g erNo tt) (tM g erNo me) vs σ H Q := by
  obtain ⟨ρ, st, s, h⟩ := h
  refine ⟨ρ, st, s, (OutC.bind h).mono fun ds st0 ρ0 H0 _ h0 s0 J hJ => ?_⟩
  intro p hp
  cases er : lcS tgd tt me (wipeS st0.sl vs) ds st0.ce with
  | none => simp only [er] at h0; exact h0.elim
  | some r =>
  obtain ⟨xs, ceE⟩ := r
  simp only [er] at h0
  by_cases hz : xs.length ≤ 1000000
  case neg => rw [if_neg hz] at h0; exact h0.elim
  rw [if_pos hz] at h0
  refine ⟨fun i m H' => m = ds.length - i ∧ i ≤ ds.length ∧ ∃ ρ ce acc dd rest, Grow g ρ0 st0 H0 σ p ρ ce H' acc dd ∧ lcS tgd tt me (wipeS st0.sl vs) (ds.drop i) ce = some (rest, ceE) ∧ dd ++ rest = xs, ⟨ds.length, rfl, Nat.zero_le _, _, _, _, _, xs, Grow.zero s0 hp, er, rfl⟩, ?_⟩
  rintro i m H1 ⟨rfl, hi, ρ1, ce1, acc, dd, rest, Gr, er1, hx⟩
  by_cases hlt : i < ds.length
  · have hd : ds.drop i = ds[i] :: ds.drop (i + 1) := List.drop_eq_getElem_cons hlt
    rw [hd] at er1
    unfold lcS at er1
    have hget : ds[i]? = some ds[i] := List.getElem?_eq_getElem hlt
    have kp : ∀ a o, H0 a = some o → ¬ Vol ρ0 st0 a → H1 a = some o ∧ ¬ Vol ρ1 (st0.with ce1) a := fun a o h n => by
      obtain ⟨h1, n1⟩ := Gr.ext.keep a o h n
      refine ⟨h1, fun v => ?_⟩
      rcases v with v | v
      · rw [Gr.u] at v
        rcases v with v | v
        · exact n1 (.inl v)
        · rw [v, hp] at h; cases h
      · exact n1 (.inr v)
    obtain ⟨go, yl⟩ := (hJ (Vol ρ1 (st0.with ce1)) H1 kp (fun a v => Gr.sim.volT v) i).1 _ hget
    refine .inr ⟨go, fun H' => i + 1 ≤ ds.length ∧ ∃ ρ ce acc dd rest, Grow g ρ0 st0 H0 σ p ρ ce H' acc dd ∧ lcS tgd tt me (wipeS st0.sl vs) (ds.drop (i + 1)) ce = some (rest, ceE) ∧ dd ++ rest = xs, fun H' ⟨a, b⟩ => ⟨ds.length - (i + 1), by omega, rfl, a, b⟩, fun x H2 hy => ?_⟩
    obtain ⟨hH, r2⟩ := yl x H2 hy
    obtain ⟨x2, s2⟩ := Ext.like Gr.sim hH
    cases e1 : tgd ds[i] ⟨wipeS st0.sl vs, ce1⟩ with
    | none => simp only [e1] at er1; cases er1
    | some st3 =>
    simp only [e1] at er1
    have G2 := Gr.go hp (stw := st0.with ce1) rfl x2 s2.toCells
    have sw := G2.sim.wipe vs
    refine ok ρ1 _ H2 ⟨wipeS st0.sl vs, ce1⟩ x _ st3 _ e1 sw r2 fun σ3 s3 ce3 hw => ⟨by rw [hw vs hv]; exact wipe_wipe σ vs vs fun _ h => h, ?_⟩
    have G3 := G2.go hp (stw := st3) ce3 Ext.refl s3.toCells
    refine ⟨ρ1, st3, s3, ?_⟩
    cases e2 : tt st3 with
    | no => simp only [e2] at er1; cases er1
    | er c v s => simp only [e2] at er1; cases er1
    | ok b st4 =>
    intro ρ4 H4 x4 s4
    have G4 := G2.go hp (stw := st3) ce3 x4 s4.toCells
    cases b with
    | false =>
      simp only [e2] at er1
      rw [if_neg (by decide)]
      exact ⟨hlt, ρ4, st4.ce, acc, dd, rest, G4, er1, hx⟩
    | true =>
      simp only [e2] at er1
      rw [if_pos rfl]
      refine ⟨ρ4, st4, s4, ?_⟩
      cases e3 : me st4 with
      | no => simp only [e3] at er1; cases er1
      | er c v s => simp only [e3] at er1; cases er1
      | ok d st5 =>
      simp only [e3] at er1
      intro ρ5 H5 x5 s5 y ry
      cases e4 : lcS tgd tt me (wipeS st0.sl vs) (ds.drop (i + 1)) st5.ce with
      | none => simp only [e4] at er1; cases er1
      | some r5 =>
      obtain ⟨rest5, ce5⟩ := r5
      simp only [e4] at er1
      cases Option.some.inj er1
      have G5 := G4.go hp (stw := st4) rfl x5 s5.toCells
      have ry' : Rp g (Vol ρ5 (st0.with st5.ce)) H5 y d := ry
      have hl : acc.length = dd.length := G5.rp.1
      have hz2 : dd.length + (rest5.length + 1) ≤ 1000000 := by
        have q : dd ++ d :: rest5 = xs := hx
        rw [← q, List.length_append, List.length_cons] at hz
        exact hz
      exact ⟨acc, G5.at', by have : (1000000 : Nat) < sizeLine := by decide
                             omega, hlt, ρ5, st5.ce, _, _, rest5, G5.push hp s0.uo ry', e4, by rw [List.append_assoc]; exact hx⟩
  · have e : i = ds.length := by omega
    subst e
    rw [List.drop_length] at er1
    unfold lcS at er1
    cases Option.some.inj er1
    rw [List.append_nil] at hx
    subst hx
    have kp : ∀ a o, H0 a = some o → ¬ Vol ρ0 st0 a → H1 a = some o ∧ ¬ Vol (ρ1.lev ρ0.U) (st0.with ceE) a := Gr.ext.keep
    obtain ⟨q1, q2, q3⟩ := Gr.end hp s0.uo
    exact .inl ⟨(hJ _ H1 kp (fun a v => q2.volT v) _).2 (Nat.le_refl _), h0 _ H1 q1 q2 _ q3⟩
/-- no test -/
def mYes : MT := fun st => .ok true st
theorem pts_mNil {X : Cx} : PTs X [] (tMT g erNo mYes) := ⟨fun pq s σ H Q I h => by
  obtain ⟨ρ, st, sm, h⟩ := h
  exact (pts_nil (X := X)).run pq s σ H Q I (h ρ H Ext.refl sm)⟩
theorem pe_mLc {X : Cx} {elt tg iter : Expr} {ifs : List Expr} {scope : Scope} {own : List (Str × Nat)} {pos : Pos} {mi : MI} {tgd : Tg} {t : TG} {is : List Nat} {tt : MT} {me : M} (hc : X.calm = true) (hN : X.N.Nodup) (hi : PI X tg iter (tMI g ER mi)) (bk : BlkOk X.N X.env.scope scope own) (ok : GOk g tgd t is) (hv : ∀ i ∈ is, i ∈ own.map (·.2))
    (hg : ∀ (s : Shared) (H : Hp) (C : Addr) (cl : List (Str × Addr)) (fp : List Addr), PG (X.blk s H scope (compEnvC scope cl C X.env) fp) tg t) (ht : ∀ (s : Shared) (H : Hp) (C : Addr) (cl : List (Str × Addr)) (fp : List Addr), PTs (X.blk s H scope (compEnvC scope cl C X.env) fp) ifs (tMT g erNo tt))
    (he : ∀ (s : Shared) (H : Hp) (C : Addr) (cl : List (Str × Addr)) (fp : List Addr), PE (X.blk s H scope (compEnvC scope cl C X.env) fp) elt (tM g erNo me)) (hs : ∀ x, foldedSetIterable iter X.env x = pure x := by intro _; rfl) :
    PE X (.ListComp elt [⟨tg, iter, ifs, 0⟩] scope pos) (tM g ER (mLc mi tgd tt me (own.map (·.2)))) := PEi (pe_lc hc hN hi bk hg ht he hs) fun _ _ _ h => tM_lc ok hv h
theorem ps_mLc {X : Cx} {i : Nat} {y : Str} {py : Pos} {elt tg iter : Expr} {ifs : List Expr} {scope : Scope} {own : List (Str × Nat)} {pos spos : Pos} {mi : MI} {tgd : Tg} {t : TG} {is : List Nat} {tt : MT} {me : M} (hc : X.calm = true) (hN : X.N.Nodup) (hy : X.N[i]? = some y) (hyl : X.env.scope.names.lookup y = some .local)
    (hsw : swapsWith (.ListComp elt [⟨tg, iter, ifs, 0⟩] scope pos) (some (.Name y py)) spos.line X.env = pure true) (hi : PI X tg iter (tMI g ER mi)) (bk : BlkOk X.N X.env.scope scope own) (ok : GOk g tgd t is) (hv : ∀ i ∈ is, i ∈ own.map (·.2))
    (hg : ∀ (s : Shared) (H : Hp) (C : Addr) (cl : List (Str × Addr)) (fp : List Addr), PG (X.blk s H scope (compEnvC scope cl C X.env) fp) tg t) (ht : ∀ (s : Shared) (H : Hp) (C : Addr) (cl : List (Str × Addr)) (fp : List Addr), PTs (X.blk s H scope (compEnvC scope cl C X.env) fp) ifs (tMT g erNo tt))
    (he : ∀ (s : Shared) (H : Hp) (C : Addr) (cl : List (Str × Addr)) (fp : List Addr), PE (X.blk s H scope (compEnvC scope cl C X.env) fp) elt (tM g erNo me)) (hs : ∀ x, foldedSetIterable iter X.env x = pure x := by intro _; rfl) :
    PS X (.Assign [.Name y py] (.ListComp elt [⟨tg, iter, ifs, 0⟩] scope pos) spos) (tMS g ER (mAsg i (mLc mi tgd tt me (own.map (·.2))))) := by
  refine PSi (ps_setLc hc hN hy hyl hsw hi bk hg ht he hs) fun E σ H h => ?_
  obtain ⟨ρ, st, s, h⟩ := h
  refine tM_lc ok hv ⟨ρ, st, s, (OutS.bind h).mono fun d st1 ρ1 H1 _ h1 s1 v rv => ?_⟩
  exact h1 ρ1 _ H1 (Ext.put i _) (s1.put i ⟨v, rfl, rv⟩)
end
end RE
set_option maxHeartbeats 2000000
namespace RE
open PySem PySem.Spec PyProof.Rows L2
def lc2S (tg : Tg) (tt : MT) (mi1 : MI) (tg1 : Tg) (tt1 : MT) (me : M) (vs1 : List Nat) (w : List Sl) : List D → List Ce → Option (List D × List Ce)
  | [], ce => some ([], ce)
  | d :: ds, ce => match tg d ⟨w, ce⟩ with
    | none => none
    | some st1 => match tt st1 with
      | .ok true st2 => match mi1 ⟨st1.sl, st2.ce⟩ with
        | .ok es st3 => match lcS tg1 tt1 me (wipeS st1.sl vs1) es st3.ce with
          | some (ys, ce3) => match lc2S tg tt mi1 tg1 tt1 me vs1 w ds ce3 with
            | some (xs, ce') => some (ys ++ xs, ce')
            | none => none
          | none => none
        | _ => none
      | .ok false st2 => lc2S tg tt mi1 tg1 tt1 me vs1 w ds st2.ce
      | _ => none
def mLc2 (mi : MI) (tg : Tg) (tt : MT) (mi1 : MI) (tg1 : Tg) (tt1 : MT) (me : M) (vs vs1 : List Nat) : M := fun st => bindO (mi st) fun ds st1 => match lc2S tg tt mi1 tg1 tt1 me vs1 (wipeS st1.sl vs) ds st1.ce with
  | some (xs, ce) => if xs.length ≤ 1000000 then .ok (.lst xs) (st1.with ce) else .no
  | none => .no
section
variable {g : G} {ER : EK} {ρ0 ρ ρ' : Rh} {st0 st' : S} {H0 H H' : Hp} {σ σ' : L2.St} {p : Addr} {ce : List Ce} {acc : List V} {ds : List D}
theorem tM_lc2 {mi mi1 : MI} {tgd tgd1 : Tg} {t t1 : TG} {is is1 vs vs1 : List Nat} {tt tt1 : MT} {me : M} (ok : GOk g tgd t is) (hv : ∀ i ∈ is, i ∈ vs) (ok1 : GOk g tgd1 t1 is1) (hv1 : ∀ i ∈ is1, i ∈ vs1) {σ : L2.St} {H : Hp} {Q : VK} (h : tM g ER (mLc2 mi tgd tt mi1 tgd1 tt1 me vs vs1) σ H Q) :
    tLc2 (tMI g ER mi) t (tMT g erNo tt) (tMI g erNo mi1) t1 (tMT g erNo tt1) (tM g erNo me) vs vs1 σ H Q := by
  obtain ⟨ρ, st, s, h⟩ := h
  refine ⟨ρ, st, s, (OutC.bind h).mono fun ds st0 ρ0 H0 _ h0 s0 J hJ => ?_⟩
  intro p hp
  cases er : lc2S tgd tt mi1 tgd1 tt1 me vs1 (wipeS st0.sl vs) ds st0.ce with
  | none => simp only [er] at h0; exact h0.elim
  | some r =>
  obtain ⟨xs, ceE⟩ := r
  simp only [er] at h0
  by_cases hz : xs.length ≤ 1000000
  case neg => rw [if_neg hz] at h0; exact h0.elim
  rw [if_pos hz] at h0
  refine ⟨fun i m H' => m = ds.length - i ∧ i ≤ ds.length ∧ ∃ ρ ce acc dd rest, Grow g ρ0 st0 H0 σ p ρ ce H' acc dd ∧ lc2S tgd tt mi1 tgd1 tt1 me vs1 (wipeS st0.sl vs) (ds.drop i) ce = some (rest, ceE) ∧ dd ++ rest = xs, ⟨ds.length, rfl, Nat.zero_le _, _, _, _, _, xs, Grow.zero s0 hp, er, rfl⟩, ?_⟩
  rintro i m H1 ⟨rfl, hi, ρ1, ce1, acc, dd, rest, Gr, er1, hx⟩
  by_cases hlt : i < ds.length
  · have hd : ds.drop i = ds[i] :: ds.drop (i + 1) := List.drop_eq_getElem_cons hlt
    rw [hd] at er1
    unfold lc2S at er1
    have hget : ds[i]? = some ds[i] := List.getElem?_eq_getElem hlt
    have kp : ∀ a o, H0 a = some o → ¬ Vol ρ0 st0 a → H1 a = some o ∧ ¬ Vol ρ1 (st0.with ce1) a := fun a o h n => by
      obtain ⟨h1, n1⟩ := Gr.ext.keep a o h n
      refine ⟨h1, fun v => ?_⟩
      rcases v with v | v
      · rw [Gr.u] at v
        rcases v with v | v
        · exact n1 (.inl v)
        · rw [v, hp] at h; cases h
      · exact n1 (.inr v)
    obtain ⟨go, yl⟩ := (hJ (Vol ρ1 (st0.with ce1)) H1 kp (fun a v => Gr.sim.volT v) i).1 _ hget
    refine .inr ⟨go, fun H' => i + 1 ≤ ds.length ∧ ∃ ρ ce acc dd rest, Grow g ρ0 st0 H0 σ p ρ ce H' acc dd ∧ lc2S tgd tt mi1 tgd1 tt1 me vs1 (wipeS st0.sl vs) (ds.drop (i + 1)) ce = some (rest, ceE) ∧ dd ++ rest = xs, fun H' ⟨a, b⟩ => ⟨ds.length - (i + 1), by omega, rfl, a, b⟩, fun x H2 hy => ?_⟩
    obtain ⟨hH, r2⟩ := yl x H2 hy
    obtain ⟨x2, s2⟩ := Ext.like Gr.sim hH
    cases e1 : tgd ds[i] ⟨wipeS st0.sl vs, ce1⟩ with
    | none => simp only [e1] at er1; cases er1
    | some st3 =>
    simp only [e1] at er1
    have G2 := Gr.go hp (stw := st0.with ce1) rfl x2 s2.toCells
    have sw := G2.sim.wipe vs
    refine ok ρ1 _ H2 ⟨wipeS st0.sl vs, ce1⟩ x _ st3 _ e1 sw r2 fun σ3 s3 ce3 hw => ⟨by rw [hw vs hv]; exact wipe_wipe σ vs vs fun _ h => h, ?_⟩
    refine ⟨ρ1, st3, s3, ?_⟩
    cases e2 : tt st3 with
    | no => simp only [e2] at er1; cases er1
    | er c v s => simp only [e2] at er1; cases er1
    | ok b st4 =>
    intro ρ4 H4 x4 s4
    have G4 := G2.go hp (stw := st3) ce3 x4 s4.toCells
    cases b with
    | false =>
      simp only [e2] at er1
      rw [if_neg (by decide)]
      exact ⟨hlt, ρ4, st4.ce, acc, dd, rest, G4, er1, hx⟩
    | true =>
      simp only [e2] at er1
      rw [if_pos rfl]
      have s4' : Sim g ρ4 σ3 H4 (st3.with st4.ce) := s3.back x4 s4.toCells
      refine ⟨ρ4, _, s4', ?_⟩
      cases e3 : mi1 (st3.with st4.ce) with
      | no => 
        have e3' : mi1 ⟨st3.sl, st4.ce⟩ = .no := e3
        simp only [e3'] at er1; cases er1
      | er c v s =>
        have e3' : mi1 ⟨st3.sl, st4.ce⟩ = .er c v s := e3
        simp only [e3'] at er1; cases er1
      | ok es st5 =>
      have e3' : mi1 ⟨st3.sl, st4.ce⟩ = .ok es st5 := e3
      simp only [e3'] at er1
      cases e4 : lcS tgd1 tt1 me (wipeS st3.sl vs1) es st5.ce with
      | none => simp only [e4] at er1; cases er1
      | some r4 =>
      obtain ⟨ys, ce4⟩ := r4
      simp only [e4] at er1
      cases e5 : lc2S tgd tt mi1 tgd1 tt1 me vs1 (wipeS st0.sl vs) (ds.drop (i + 1)) ce4 with
      | none => simp only [e5] at er1; cases er1
      | some r5 =>
      obtain ⟨rest5, ce5⟩ := r5
      simp only [e5] at er1
      cases Option.some.inj er1
      intro ρ5 H5 x5 s5 J1 hJ1
      have G5 := G4.go hp (stw := st3.with st4.ce) rfl x5 s5.toCells
      have s5' : Sim g ρ5 σ3 H5 (st3.with st5.ce) := s4'.back x5 s5.toCells
      refine ⟨fun j k H' => k = es.length - j ∧ j ≤ es.length ∧ ∃ ρ ce acc dd' rest', Grow g ρ0 st0 H0 σ p ρ ce H' acc dd' ∧ Sim g ρ σ3 H' (st3.with ce) ∧ (∀ a o, H5 a = some o → ¬ Vol ρ5 st5 a → H' a = some o ∧ ¬ Vol ρ (st3.with ce) a) ∧
          lcS tgd1 tt1 me (wipeS st3.sl vs1) (es.drop j) ce = some (rest', ce4) ∧ dd' ++ rest' = dd ++ ys, ⟨es.length, rfl, Nat.zero_le _, _, _, _, _, ys, G5, s5', fun a o h n => ⟨h, n⟩, e4, rfl⟩, ?_⟩
      rintro j k H6 ⟨rfl, hj, ρ6, ce6, acc6, dd6, rest6, G6, s6, k6, er6, hx6⟩
      by_cases hjl : j < es.length
      · have hd6 : es.drop j = es[j] :: es.drop (j + 1) := List.drop_eq_getElem_cons hjl
        rw [hd6] at er6
        unfold lcS at er6
        have hget6 : es[j]? = some es[j] := List.getElem?_eq_getElem hjl
        obtain ⟨go6, yl6⟩ := (hJ1 (Vol ρ6 (st3.with ce6)) H6 k6 (fun a v => s6.volT v) j).1 _ hget6
        refine .inr ⟨go6, fun H' => j + 1 ≤ es.length ∧ ∃ ρ ce acc dd' rest', Grow g ρ0 st0 H0 σ p ρ ce H' acc dd' ∧ Sim g ρ σ3 H' (st3.with ce) ∧ (∀ a o, H5 a = some o → ¬ Vol ρ5 st5 a → H' a = some o ∧ ¬ Vol ρ (st3.with ce) a) ∧
          lcS tgd1 tt1 me (wipeS st3.sl vs1) (es.drop (j + 1)) ce = some (rest', ce4) ∧ dd' ++ rest' = dd ++ ys, fun H' ⟨a, b⟩ => ⟨es.length - (j + 1), by omega, rfl, a, b⟩, fun x' H7 hy7 => ?_⟩
        obtain ⟨hH7, r7⟩ := yl6 x' H7 hy7
        obtain ⟨x7, s7⟩ := Ext.like s6 hH7
        have G7 := G6.go hp (stw := st3.with ce6) rfl x7 s7.toCells
        cases e7 : tgd1 es[j] ⟨wipeS st3.sl vs1, ce6⟩ with
        | none => simp only [e7] at er6; cases er6
        | some st8 =>
        simp only [e7] at er6
        have sw7 := s7.wipe vs1
        refine ok1 ρ6 _ H7 ⟨wipeS st3.sl vs1, ce6⟩ x' _ st8 _ e7 sw7 r7 fun σ8 s8 ce8 hw8 => ⟨by rw [hw8 vs1 hv1]; exact wipe_wipe σ3 vs1 vs1 fun _ h => h, ?_⟩
        refine ⟨ρ6, st8, s8, ?_⟩
        cases e8 : tt1 st8 with
        | no => simp only [e8] at er6; cases er6
        | er c v s => simp only [e8] at er6; cases er6
        | ok b st9 =>
        intro ρ9 H9 x9 s9
        have x9' : Ext ρ6 (st3.with ce6) H7 ρ9 (st3.with st9.ce) H9 := x9.with ce8
        have G9 := G7.go hp (stw := st8) ce8 x9 s9.toCells
        have s9' : Sim g ρ9 σ3 H9 (st3.with st9.ce) := s7.back (st' := st9) (x9.ce (st0 := st3.with ce6) ce8) s9.toCells
        have k9 : ∀ a o, H5 a = some o → ¬ Vol ρ5 st5 a → H9 a = some o ∧ ¬ Vol ρ9 (st3.with st9.ce) a := fun a o h n => by
          obtain ⟨h1, n1⟩ := k6 a o h n
          obtain ⟨h2, n2⟩ := x7.keep a o h1 n1
          exact x9'.keep a o h2 n2
        cases b with
        | false =>
          simp only [e8] at er6
          rw [if_neg (by decide)]
          exact ⟨hjl, ρ9, st9.ce, acc6, dd6, rest6, G9, s9', k9, er6, hx6⟩
        | true =>
          simp only [e8] at er6
          rw [if_pos rfl]
          refine ⟨ρ9, st9, s9, ?_⟩
          cases e9 : me st9 with
          | no => simp only [e9] at er6; cases er6
          | er c v s => simp only [e9] at er6; cases er6
          | ok d st10 =>
          simp only [e9] at er6
          intro ρ10 H10 x10 s10 y ry
          cases e10 : lcS tgd1 tt1 me (wipeS st3.sl vs1) (es.drop (j + 1)) st10.ce with
          | none => simp only [e10] at er6; cases er6
          | some r10 =>
          obtain ⟨rest10, ce10⟩ := r10
          simp only [e10] at er6
          cases Option.some.inj er6
          have x10' : Ext ρ9 (st3.with st9.ce) H9 ρ10 (st3.with st10.ce) H10 := x10.with rfl
          have G10 := G9.go hp (stw := st9) rfl x10 s10.toCells
          have s10' : Sim g ρ10 σ3 H10 (st3.with st10.ce) := s9'.back (st' := st10) (x10.ce (st0 := st3.with st9.ce) rfl) s10.toCells
          have up : ρ10.U p := by rw [G10.u]; exact .inr rfl
          have hl : acc6.length = dd6.length := G10.rp.1
          have hz2 : dd6.length + (rest10.length + 1) ≤ 1000000 := by
            have q : dd ++ (ys ++ rest5) = xs := hx
            rw [← q, ← List.append_assoc, ← hx6, List.length_append, List.length_append, List.length_cons] at hz
            omega
          exact ⟨acc6, G10.at', by have : (1000000 : Nat) < sizeLine := by decide
                                   omega, hjl, ρ10, st10.ce, _, _, rest10, G10.push hp s0.uo ry, s10'.touch up nt_l, fun a o h n => by
                                     obtain ⟨h1, n1⟩ := k9 a o h n
                                     obtain ⟨h2, n2⟩ := x10'.keep a o h1 n1
                                     exact keep_touch (st := st3.with st10.ce) up a o h2 n2, e10, by rw [List.append_assoc]; exact hx6⟩
      · have e : j = es.length := by omega
        subst e
        rw [List.drop_length] at er6
        unfold lcS at er6
        cases Option.some.inj er6
        rw [List.append_nil] at hx6
        refine .inl ⟨(hJ1 _ H6 k6 (fun a v => s6.volT v) _).2 (Nat.le_refl _), hlt, ρ6, ce4, acc6, dd6, rest5, G6, e5, ?_⟩
        rw [hx6, List.append_assoc]; exact hx
  · have e : i = ds.length := by omega
    subst e
    rw [List.drop_length] at er1
    unfold lc2S at er1
    cases Option.some.inj er1
    rw [List.append_nil] at hx
    subst hx
    have kp : ∀ a o, H0 a = some o → ¬ Vol ρ0 st0 a → H1 a = some o ∧ ¬ Vol (ρ1.lev ρ0.U) (st0.with ceE) a := Gr.ext.keep
    obtain ⟨q1, q2, q3⟩ := Gr.end hp s0.uo
    exact .inl ⟨(hJ _ H1 kp (fun a v => q2.volT v) _).2 (Nat.le_refl _), h0 _ H1 q1 q2 _ q3⟩
theorem pe_mLc2 {X : Cx} {elt tg iter tg1 iter1 : Expr} {ifs ifs1 : List Expr} {scope : Scope} {own : List (Str × Nat)} {vs1 : List Nat} {pos : Pos} {mi mi1 : MI} {tgd tgd1 : Tg} {t t1 : TG} {is is1 : List Nat} {tt tt1 : MT} {me : M} (hc : X.calm = true) (hN : X.N.Nodup) (hi : PI X tg iter (tMI g ER mi)) (bk : BlkOk X.N X.env.scope scope own) (hvv : ∀ i ∈ vs1, i ∈ own.map (·.2))
    (ok : GOk g tgd t is) (hv : ∀ i ∈ is, i ∈ own.map (·.2)) (ok1 : GOk g tgd1 t1 is1) (hv1 : ∀ i ∈ is1, i ∈ vs1)
    (hg : ∀ (s : Shared) (H : Hp) (C : Addr) (cl : List (Str × Addr)) (fp : List Addr), PG (X.blk s H scope (compEnvC scope cl C X.env) fp) tg t) (ht : ∀ (s : Shared) (H : Hp) (C : Addr) (cl : List (Str × Addr)) (fp : List Addr), PTs (X.blk s H scope (compEnvC scope cl C X.env) fp) ifs (tMT g erNo tt))
    (hi1 : ∀ (s : Shared) (H : Hp) (C : Addr) (cl : List (Str × Addr)) (fp : List Addr), PI (X.blk s H scope (compEnvC scope cl C X.env) fp) tg1 iter1 (tMI g erNo mi1))
    (hg1 : ∀ (s : Shared) (H : Hp) (C : Addr) (cl : List (Str × Addr)) (fp : List Addr), PG (X.blk s H scope (compEnvC scope cl C X.env) fp) tg1 t1) (ht1 : ∀ (s : Shared) (H : Hp) (C : Addr) (cl : List (Str × Addr)) (fp : List Addr), PTs (X.blk s H scope (compEnvC scope cl C X.env) fp) ifs1 (tMT g erNo tt1))
    (he : ∀ (s : Shared) (H : Hp) (C : Addr) (cl : List (Str × Addr)) (fp : List Addr), PE (X.blk s H scope (compEnvC scope cl C X.env) fp) elt (tM g erNo me)) (hs : ∀ x, foldedSetIterable iter X.env x = pure x := by intro _; rfl) (hs1 : ∀ env x, foldedSetIterable iter1 env x = pure x := by intro _ _; rfl) :
    PE X (.ListComp elt [⟨tg, iter, ifs, 0⟩, ⟨tg1, iter1, ifs1, 0⟩] scope pos) (tM g ER (mLc2 mi tgd tt mi1 tgd1 tt1 me (own.map (·.2)) vs1)) := PEi (pe_lc2 hc hN hi bk hvv hg ht hi1 hg1 ht1 he hs hs1) fun _ _ _ h => tM_lc2 ok hv ok1 hv1 h
theorem ps_mLc2 {X : Cx} {i : Nat} {y : Str} {py : Pos} {elt tg iter tg1 iter1 : Expr} {ifs ifs1 : List Expr} {scope : Scope} {own : List (Str × Nat)} {vs1 : List Nat} {pos spos : Pos} {mi mi1 : MI} {tgd tgd1 : Tg} {t t1 : TG} {is is1 : List Nat} {tt tt1 : MT} {me : M} (hc : X.calm = true) (hN : X.N.Nodup) (hy : X.N[i]? = some y) (hyl : X.env.scope.names.lookup y = some .local)
    (hsw : swapsWith (.ListComp elt [⟨tg, iter, ifs, 0⟩, ⟨tg1, iter1, ifs1, 0⟩] scope pos) (some (.Name y py)) spos.line X.env = pure true) (hi : PI X tg iter (tMI g ER mi)) (bk : BlkOk X.N X.env.scope scope own) (hvv : ∀ i ∈ vs1, i ∈ own.map (·.2))
    (ok : GOk g tgd t is) (hv : ∀ i ∈ is, i ∈ own.map (·.2)) (ok1 : GOk g tgd1 t1 is1) (hv1 : ∀ i ∈ is1, i ∈ vs1)
    (hg : ∀ (s : Shared) (H : Hp) (C : Addr) (cl : List (Str × Addr)) (fp : List Addr), PG (X.blk s H scope (compEnvC scope cl C X.env) fp) tg t) (ht : ∀ (s : Shared) (H : Hp) (C : Addr) (cl : List (Str × Addr)) (fp : List Addr), PTs (X.blk s H scope (compEnvC scope cl C X.env) fp) ifs (tMT g erNo tt))
    (hi1 : ∀ (s : Shared) (H : Hp) (C : Addr) (cl : List (Str × Addr)) (fp : List Addr), PI (X.blk s H scope (compEnvC scope cl C X.env) fp) tg1 iter1 (tMI g erNo mi1))
    (hg1 : ∀ (s : Shared) (H : Hp) (C : Addr) (cl : List (Str × Addr)) (fp : List Addr), PG (X.blk s H scope (compEnvC scope cl C X.env) fp) tg1 t1) (ht1 : ∀ (s : Shared) (H : Hp) (C : Addr) (cl : List (Str × Addr)) (fp : List Addr), PTs (X.blk s H scope (compEnvC scope cl C X.env) fp) ifs1 (tMT g erNo tt1))
    (he : ∀ (s : Shared) (H : Hp) (C : Addr) (cl : List (Str × Addr)) (fp : List Addr), PE (X.blk s H scope (compEnvC scope cl C X.env) fp) elt (tM g erNo me)) (hs : ∀ x, foldedSetIterable iter X.env x = pure x := by intro _; rfl) (hs1 : ∀ env x, foldedSetIterable iter1 env x = pure x := by intro _ _; rfl) :
    PS X (.Assign [.Name y py] (.ListComp elt [⟨tg, iter, ifs, 0⟩, ⟨tg1, iter1, ifs1, 0⟩] scope pos) spos) (tMS g ER (mAsg i (mLc2 mi tgd tt mi1 tgd1 tt1 me (own.map (·.2)) vs1))) := by
  refine PSi (ps_setLc2 hc hN hy hyl hsw hi bk hvv hg ht hi1 hg1 ht1 he hs hs1) fun E σ H h => ?_
  obtain ⟨ρ, st, s, h⟩ := h
  refine tM_lc2 ok hv ok1 hv1 ⟨ρ, st, s, (OutS.bind h).mono fun d st1 ρ1 H1 _ h1 s1 v rv => ?_⟩
  exact h1 ρ1 _ H1 (Ext.put i _) (s1.put i ⟨v, rfl, rv⟩)
end
end RE
set_option maxHeartbeats 2000000
namespace RE
open PySem PySem.Spec PyProof.Rows L2
/-- d[k] = v by a comprehension, the key a tuple -/
theorem dset_t {X : Cx} {pn : List (Addr × Obj)} {σ : L2.St} {H : Hp} {s : Shared} {E : Value → Shared → Prop} {p b : Addr} {kv : List (List Key × V)} {k : List Key} {v : V} {u r : Value} {Q : Unit → Shared → Prop}
    (hu : X.A.units < cLine) (In : Inv X pn σ H s) (hp : H p = some (.dT kv)) (hz : kv.length < sizeLine) (hb : H b = some (.tup (k.map kV))) (ru : RelV (.ref b) u) (rv : RelV v r)
    (h : ∀ s', Inv X pn σ (upd H p (.dT (putK kv k v))) s' → Q () s') : wpAny (model X.prog X.w) X.A (dictSet p u r) Q E s := by
  cases (show u = Value.ref b from ru)
  obtain ⟨z, nd, xs, rel, dd⟩ := dt_of In.hok hp
  have lx : xs.length ≤ sizeLine := by rw [← Paired.length rel]; exact z
  have lp : (putK kv k v).length ≤ sizeLine := by have := length_putK kv k v; omega
  have key := key_of In.hok hb
  unfold dictSet
  refine wpAny_holding (wpAny_bind (wpAny_pyHash_tuple hu key ?_))
  refine wpAny_dictSetHashed_heap (knd := tupleKind (mixKind X.prog X.w)) (hsz := lx) hu key dd fun h' dd' hs => ?_
  obtain ⟨q, en, ep, hq, h2, h3, h4, _, h5⟩ := dd'
  have I1 := In.tok (s.toks + (k.length + 1))
  refine h _ (d_write I1 (by rw [hp]; exact True.intro) hs ⟨q, hq⟩ ⟨lp, nd, _, (rel.put k hb rv).keeps fun c ys ec => ?_, q, en, ep, hq, h2, h3, h4, h5⟩)
  rw [upd_ne (ne_of ec hp (fun z => nomatch z))]
  exact ec
/-- .. of any kind -/
theorem dset_any {X : Cx} {pn : List (Addr × Obj)} {σ : L2.St} {H H' : Hp} {s : Shared} {E : Value → Shared → Prop} {p : Addr} {y v : V} {u r : Value} {Q : Unit → Shared → Prop}
    (hu : X.A.units < cLine) (In : Inv X pn σ H s) (dp : DPut H p y v H') (ru : RelV y u) (rv : RelV v r)
    (h : ∀ s', Inv X pn σ H' s' → Q () s') : wpAny (model X.prog X.w) X.A (dictSet p u r) Q E s := by
  rcases dp with ⟨kv, k, e1, e2, e3, e4⟩ | ⟨kv, k, b, e1, e2, e3, e4, e5⟩
  · subst e2 e4
    exact d_dictSet In e1 e3 ru rv h
  · subst e2 e5
    exact dset_t hu In e1 e4 e3 ru rv h
/-- a new dict, of either kind -/
inductive NewD : HO → Prop where
  | k : NewD (.dK [])
  | t : NewD (.dT [])
/-- a turn of a loop of a block: the item, its store, the tests -/
theorem turn_go {Y : Cx} {tg : Expr} {ifs : List Expr} {J : It} {fq : List Addr} {itr : Addr} {tn : Nat → Heap → Prop} {i : Nat} {pn : List (Addr × Obj)} {s : Shared} {σ : L2.St} {H : Hp} {gt : TG} {tt : TT} {P : Bool → L2.St → Hp → Prop} {E : Value → Shared → Prop} {F : Bool → Shared → Prop} {N : Shared → Prop}
    (hY : Y.xe = fun _ _ => False) (calm : Y.calm = true) (T : Turn Y.prog Y.w Y.K tg J fq itr tn) (pg : PG Y tg gt) (pt : PTs Y ifs tt)
    (In : Inv Y pn σ H s) (off : ∀ b ∈ fq, FpOk Y pn H b) (t : tn i s.heap) (go : J.go i H)
    (h : ∀ x H', J.yld i H x H' → gt x σ H' fun σ2 H2 => tt σ2 H2 fun b H3 => P b σ2 H3)
    (hF : ∀ b (s7 : Shared) σ2 H3 (s9 : Shared), tn (i + 1) s7.heap → Inv Y (pn ++ pinsAt fq s7.heap) σ2 H3 s9 → P b σ2 H3 → F b s9) :
    wpAny (model Y.prog Y.w) Y.A (pyNext (.ref itr)) (fun r s1 => match r with
      | none => N s1
      | some v => wpAny (model Y.prog Y.w) Y.A (letOwnedTupleGo tg (.ref itr) v) (fun _ s2 => wpAny (model Y.prog Y.w) Y.A (assign tg Y.env v) (fun _ s3 =>
          wpAny (model Y.prog Y.w) Y.A (forIn ifs true fun c r => if r = true then do let ok ← isTrue c Y.env (eval c Y.env); pure (ForInStep.yield ok) else pure (ForInStep.yield r)) F E s3) E s2) E s1) E s := by
  refine thnF (T.item Y rfl rfl rfl calm i pn s σ H (fun _ _ => False) In off t go) fun r s1 hr => ?_
  obtain ⟨u, rfl, h1⟩ := hr
  refine thnF h1 fun _ s2 h2 => ?_
  obtain ⟨x, H2, I2, r2, y2, t2, n2⟩ := h2
  have I3 := I2.pinned (fun b hb => ⟨n2 b hb, (off b hb).2⟩) (T.obj _ _ t2)
  have q1 := pg.run _ s2 σ H2 x u _ I3 r2 (h x H2 y2)
  rw [hY] at q1
  refine thnF q1 fun _ s3 h3 => ?_
  obtain ⟨σ3, H3, I4, q4⟩ := h3
  have q2 := pt.run _ s3 σ3 H3 _ I4 q4
  rw [hY] at q2
  refine thnF q2 fun b s9 h9 => ?_
  obtain ⟨H9, I9, q9⟩ := h9
  exact hF b s2 σ3 H9 s9 t2 I9 q9
/-- .. its end -/
theorem turn_end {Y : Cx} {tg : Expr} {J : It} {fq : List Addr} {itr : Addr} {tn : Nat → Heap → Prop} {i : Nat} {pn : List (Addr × Obj)} {s7 s9 : Shared} {σ : L2.St} {H : Hp}
    (T : Turn Y.prog Y.w Y.K tg J fq itr tn) (t : tn i s7.heap) (In : Inv Y (pn ++ pinsAt fq s7.heap) σ H s9) : tn i s9.heap ∧ (∀ b ∈ fq, H b = none) ∧ Inv Y pn σ H s9 := by
  have pin : ∀ b ∈ fq, ∀ o, s7.heap.get? b = some o → s9.heap.get? b = some o ∧ H b = none := fun b hb o e =>
    have z := In.pin (b, o) (List.mem_append_right _ (List.mem_append_right _ (mem_pinsAt hb e)))
    ⟨z.1, z.2.1⟩
  refine ⟨T.keep _ _ _ t fun b hb o e => (pin b hb o e).1, fun b hb => ?_, In.unpinned⟩
  obtain ⟨o, e, _⟩ := T.obj _ _ t b hb
  exact (pin b hb o e).2
/-- the block of a comprehension that makes a dict at p -/
structure Blk (X : Cx) (pn : List (Addr × Obj)) (σ : L2.St) (vs : List Nat) (fq : List Addr) (tn : Nat → Heap → Prop) (sc : Scope) (ce : Env) (HD : Hp) (sD sB : Shared) : Prop where
  beg : Inv (X.blk sD HD sc ce fq) [] (wipe σ vs) HD sB
  off : ∀ b ∈ fq, HD b = none
  its : tn 0 sB.heap
  stay : ∀ {σ' : L2.St} {H' : Hp} {s' : Shared}, Inv (X.blk sD HD sc ce fq) [] σ' H' s' → (∀ b ∈ fq, H' b = none) → ∀ b ∈ fq, FpOk (X.blk sD HD sc ce fq) [] H' b
  out : ∀ {σ' : L2.St} {H' : Hp} {s' : Shared}, Inv (X.blk sD HD sc ce fq) [] σ' H' s' → Inv X pn σ H' s' ∧ (∃ m, s'.heap.Ns sD.heap.objs.size m) ∧ FpOk X pn H' sD.heap.objs.size
theorem Blk.make {X : Cx} {pn : List (Addr × Obj)} {σ : L2.St} {own : List (Str × Nat)} {fq : List Addr} {tn : Nat → Heap → Prop} {sc : Scope} {H : Hp} {s : Shared} {o0 : HO} {tg : Expr} {J : It} {itr : Addr}
    (n0 : NewD o0) (hN : X.N.Nodup) (In : Inv X pn σ H s) (T : Turn X.prog X.w X.K tg J fq itr tn) (t : tn 0 s.heap) (off : ∀ b ∈ fq, FpOk X pn H b) (ok : BlkOk X.N X.env.scope sc own)
    {sD sB : Shared} {ce : Env} (eD : sD = { s with heap := s.heap.push { cls := .type "dict", data := .dict #[] } }) (eB : sB = { sD with heap := pushCells (sD.heap.push { cls := .type "dict", data := .dict #[] }) sc.names })
    (eC : ce = compEnvC sc (cellsFrom (sD.heap.objs.size + 1) sc.names (cloFrom X.env.cells sc.names [])) sD.heap.objs.size X.env) :
    Blk X pn σ (own.map (·.2)) fq tn sc ce (upd H s.heap.objs.size o0) sD sB := by
  have ID : Inv X pn σ (upd H s.heap.objs.size o0) sD := by
    rw [eD]
    refine In.laid (t' := s.toks) (fun b o e => Heap.get?_push_of_some _ e) (Nat.le_refl _) ?_
    cases n0 with
    | k => exact dk_empty s.heap In.big
    | t => exact dt_empty s.heap In.big
  have kD : ∀ b o, s.heap.get? b = some o → sD.heap.get? b = some o := fun b o e => by rw [eD]; exact Heap.get?_push_of_some _ e
  have fD : ∀ b ∈ fq, FpOk X pn (upd H s.heap.objs.size o0) b ∧ b < sD.heap.objs.size := fun b hb => by
    obtain ⟨o, e, _⟩ := T.obj _ _ t b hb
    have lt := Heap.lt_size e
    refine ⟨⟨?_, (off b hb).2⟩, Heap.lt_size (kD b o e)⟩
    rw [upd_ne (Nat.ne_of_lt lt)]
    exact (off b hb).1
  have IB := block_start ID ok hN fD
  have IB' : Inv (X.blk sD (upd H s.heap.objs.size o0) sc ce fq) [] (wipe σ (own.map (·.2))) (upd H s.heap.objs.size o0) sB := by rw [eB, eC]; exact IB
  have kB : ∀ b o, s.heap.get? b = some o → sB.heap.get? b = some o := fun b o e => by
    rw [eB]; exact pushCells_keeps _ _ _ _ (Heap.get?_push_of_some _ (kD b o e))
  have cl : ce.locals = sD.heap.objs.size := by rw [eC]; rfl
  refine ⟨IB', fun b hb => (fD b hb).1.1, T.keep _ _ _ t fun b _ o e => kB b o e, fun {σ' H' s'} I' hn b hb => ?_, fun {σ' H' s'} I' => ?_⟩
  · exact ⟨hn b hb, (I'.ok.exf b hb).1, I'.ok.exfs b hb, .inl hb, fun x c e => (I'.ok.exf b hb).2 x c e, fun p hp => absurd (show p ∈ ([] : List (Addr × Obj)) ++ [] from hp) (by simp)⟩
  · have I1 : Inv X pn σ H' s' := ID.call' (ch := fq) I'.os I'.base I'.hok I'.bare fun b hb => by
      obtain ⟨_, a1, a2, a3, a4, a5⟩ := (fD b hb).1
      exact ⟨a3, a1, a4, a5⟩
    have nl : H' ce.locals = none := I'.free
    obtain ⟨m, hm, _⟩ := I'.loc
    have hm : s'.heap.Ns ce.locals m := hm
    rw [cl] at nl hm
    exact ⟨I1, ⟨m, hm⟩, ID.fpOk (Nat.le_refl _) nl⟩
section
variable {X : Cx}
def tDcA (o0 : HO) (wi : TI) (g : TG) (tt : TT) (tk tv : TE) (vs : List Nat) : TE := fun σ H Q => wi σ H fun J H1 => ∀ p, H1 p = none → ∃ W : Nat → Nat → Hp → Prop, (∃ m, W 0 m (upd H1 p o0)) ∧ ∀ i m H, W i m H →
  (J.stop i H ∧ Q (.ref p) H) ∨
  (J.go i H ∧ ∃ Nx : Hp → Prop, (∀ H', Nx H' → ∃ m', m' < m ∧ W (i + 1) m' H') ∧
    ∀ x H', J.yld i H x H' → g x (wipe σ vs) H' fun σ2 H2 => tt σ2 H2 fun b H3 => wipe σ2 vs = wipe σ vs ∧
      if b = true then tk σ2 H3 fun y H4 => tv σ2 H4 fun z H5 => ∃ H6, DPut H5 p y z H6 ∧ Nx H6 else Nx H3)
theorem dcA_loop {pn : List (Addr × Obj)} {σ : L2.St} {Q : VK} {kx vx tg iter : Expr} {ifs : List Expr} {sc : Scope} {own : List (Str × Nat)} {pos : Pos} {gt : TG} {tt : TT} {tk tv : TE} {use : Option (Value → Sem Unit)} {Qf : Value → Shared → Prop}
    {p itr : Addr} {fq : List Addr} {tn : Nat → Heap → Prop} {J : It} {sD sB : Shared} {ce : Env} {HD : Hp} {W : Nat → Nat → Hp → Prop} {m0 : Nat}
    (hu : X.A.units < cLine) (calm : X.calm = true) (T : Turn X.prog X.w X.K tg J fq itr tn) (B : Blk X pn σ (own.map (·.2)) fq tn sc ce HD sD sB)
    (pg : PG (X.blk sD HD sc ce fq) tg gt) (pt : PTs (X.blk sD HD sc ce fq) ifs tt) (pk : PE (X.blk sD HD sc ce fq) kx tk) (pv : PE (X.blk sD HD sc ce fq) vx tv)
    (w0 : W 0 m0 HD) (step : ∀ i m H, W i m H → (J.stop i H ∧ Q (.ref p) H) ∨
      (J.go i H ∧ ∃ Nx : Hp → Prop, (∀ H', Nx H' → ∃ m', m' < m ∧ W (i + 1) m' H') ∧
        ∀ x H', J.yld i H x H' → gt x (wipe σ (own.map (·.2))) H' fun σ2 H2 => tt σ2 H2 fun b H3 => wipe σ2 (own.map (·.2)) = wipe σ (own.map (·.2)) ∧
          if b = true then tk σ2 H3 fun y H4 => tv σ2 H4 fun z H5 => ∃ H6, DPut H5 p y z H6 ∧ Nx H6 else Nx H3))
    (fin : ∀ s' m H', Inv X pn σ H' s' → Q (.ref p) H' → s'.heap.Ns sD.heap.objs.size m → FpOk X pn H' sD.heap.objs.size → compPost (model X.prog X.w) X.A X.xe use Qf (.ref p) sD.heap.objs.size (.ok .next) s') :
    codeAny (model X.prog X.w) X.A (.compLoop (.DictComp kx vx [⟨tg, iter, ifs, 0⟩] sc pos) 0 (.ref itr) (.ref p) ce) (compPost (model X.prog X.w) X.A X.xe use Qf (.ref p) sD.heap.objs.size) sB := by
  refine compLoop_anyD (fun n s' => ∃ i H', Inv (X.blk sD HD sc ce fq) [] (wipe σ (own.map (·.2))) H' s' ∧ tn i s'.heap ∧ (∀ b ∈ fq, H' b = none) ∧ W i n H') ?_ m0 ⟨0, _, B.beg, B.its, B.off, w0⟩
  rintro n s5 ⟨i, H5, I5, t5, n5, w5⟩
  rcases step i n H5 w5 with ⟨stop, qq⟩ | ⟨go, Nx, hNx, st⟩
  · refine thnF (T.done (X.blk sD HD sc ce fq) rfl rfl rfl calm i [] s5 _ H5 (fun _ _ => False) I5 (B.stay I5 n5) t5 stop) fun r s6 hr => ?_
    obtain ⟨rfl, I6⟩ := hr
    obtain ⟨I7, ⟨m, hm⟩, f7⟩ := B.out I6
    exact fin s6 m H5 I7 qq hm f7
  · refine turn_go (Y := X.blk sD HD sc ce fq) rfl calm T pg pt I5 (B.stay I5 n5) t5 go st fun b s7 σ9 H9 s9 t7 I9 q9 => ?_
    obtain ⟨hw, q9⟩ := q9
    have close : ∀ {s' : Shared} {H' : Hp}, Inv (X.blk sD HD sc ce fq) ([] ++ pinsAt fq s7.heap) σ9 H' s' → Nx H' →
        ∃ m, m < n ∧ ∃ i H', Inv (X.blk sD HD sc ce fq) [] (wipe σ (own.map (·.2))) H' s' ∧ tn i s'.heap ∧ (∀ b ∈ fq, H' b = none) ∧ W i m H' := fun {s' H'} I' nx => by
      obtain ⟨mn, hm, w'⟩ := hNx H' nx
      obtain ⟨e1, e2, e3⟩ := turn_end (Y := X.blk sD HD sc ce fq) T t7 I'
      exact ⟨mn, hm, i + 1, H', e3.weak (by rw [← hw, wipe_length]) (fun j v e => by rw [← hw] at e; exact (wipe_some e).1), e1, e2, w'⟩
    cases b with
    | false => exact close I9 q9
    | true =>
      refine thnF (pk.run _ s9 σ9 H9 _ I9 q9) fun z sa ha => ?_
      obtain ⟨y, Ha, Ia, ra, qa⟩ := ha
      refine thnF (pv.run _ sa σ9 Ha _ Ia qa) fun z' sb hb => ?_
      obtain ⟨y', Hb, Ib, rb, Hc, dp, nx⟩ := hb
      exact dset_any (X := X.blk sD HD sc ce fq) hu Ib dp ra rb fun sc Ic => close Ic nx
theorem dcA_run {pn : List (Addr × Obj)} {s : Shared} {σ : L2.St} {H : Hp} {Q : VK} {kx vx tg iter : Expr} {ifs : List Expr} {sc : Scope} {own : List (Str × Nat)} {pos pos' : Pos} {o0 : HO} {wi : TI} {gt : TG} {tt : TT} {tk tv : TE} {use : Option (Value → Sem Unit)} {Qf : Value → Shared → Prop}
    (n0 : NewD o0) (hu : X.A.units < cLine) (calm : X.calm = true) (hN : X.N.Nodup) (In : Inv X pn σ H s) (hi : PI X tg iter wi) (ok : BlkOk X.N X.env.scope sc own)
    (pg : ∀ (s : Shared) (H : Hp) (C : Addr) (cl : List (Str × Addr)) (fq : List Addr), PG (X.blk s H sc (compEnvC sc cl C X.env) fq) tg gt)
    (pt : ∀ (s : Shared) (H : Hp) (C : Addr) (cl : List (Str × Addr)) (fq : List Addr), PTs (X.blk s H sc (compEnvC sc cl C X.env) fq) ifs tt)
    (pk : ∀ (s : Shared) (H : Hp) (C : Addr) (cl : List (Str × Addr)) (fq : List Addr), PE (X.blk s H sc (compEnvC sc cl C X.env) fq) kx tk)
    (pv : ∀ (s : Shared) (H : Hp) (C : Addr) (cl : List (Str × Addr)) (fq : List Addr), PE (X.blk s H sc (compEnvC sc cl C X.env) fq) vx tv)
    (hs : ∀ x, foldedSetIterable iter X.env x = pure x) (h : tDcA o0 wi gt tt tk tv (own.map (·.2)) σ H Q)
    (fin : ∀ p C s' m H', Inv X pn σ H' s' → Q (.ref p) H' → s'.heap.Ns C m → FpOk X pn H' C → compPost (model X.prog X.w) X.A X.xe use Qf (.ref p) C (.ok .next) s') :
    wpAny (model X.prog X.w) X.A (comprehension (.DictComp kx vx [⟨tg, iter, ifs, 0⟩] sc pos) sc X.env pos' newDict false (eval iter X.env) use) Qf X.xe s := by
  have free : ∀ y ∈ sc.names, y.2 = .free → ∃ c, X.env.cells.lookup y.1 = some c := fun y hy e => In.ok.has _ (ok.free y hy e)
  refine wpAny_comprehension_free (use := use) rfl hs (closure_ok free) ok.kind (fun y hy e => by rw [ok.uniq y hy, e]) (thn (hi.run pn s σ H _ In h) fun xv s1 h1 => thn h1 fun iv s2 h2 => ?_)
  obtain ⟨itr, fq, tn, J, H2, rfl, I2, T, t2, f2, q⟩ := h2
  refine wpAny_newObj_type ?_
  refine newEnv_comp ?_
  obtain ⟨W, ⟨m0, w0⟩, step⟩ := q s2.heap.objs.size (I2.hok.fresh (Nat.le_refl _))
  have B := Blk.make n0 hN I2 T t2 f2 ok rfl rfl rfl
  have lp := dcA_loop (Q := Q) (use := use) (Qf := Qf) (iter := iter) (pos := pos) hu calm T B (pg _ _ _ _ _) (pt _ _ _ _ _) (pk _ _ _ _ _) (pv _ _ _ _ _) w0 step fun s' m H' I' q hm f => fin _ _ s' m H' I' q hm f
  exact codeAny_compStart_dict lp (T.self X.A 0 _ _ _ B.its lp)
theorem pe_dcA {kx vx tg iter : Expr} {ifs : List Expr} {sc : Scope} {own : List (Str × Nat)} {pos : Pos} {o0 : HO} {wi : TI} {gt : TG} {tt : TT} {tk tv : TE}
    (n0 : NewD o0) (hu : X.A.units < cLine) (calm : X.calm = true) (hN : X.N.Nodup) (hi : PI X tg iter wi) (ok : BlkOk X.N X.env.scope sc own)
    (pg : ∀ (s : Shared) (H : Hp) (C : Addr) (cl : List (Str × Addr)) (fq : List Addr), PG (X.blk s H sc (compEnvC sc cl C X.env) fq) tg gt)
    (pt : ∀ (s : Shared) (H : Hp) (C : Addr) (cl : List (Str × Addr)) (fq : List Addr), PTs (X.blk s H sc (compEnvC sc cl C X.env) fq) ifs tt)
    (pk : ∀ (s : Shared) (H : Hp) (C : Addr) (cl : List (Str × Addr)) (fq : List Addr), PE (X.blk s H sc (compEnvC sc cl C X.env) fq) kx tk)
    (pv : ∀ (s : Shared) (H : Hp) (C : Addr) (cl : List (Str × Addr)) (fq : List Addr), PE (X.blk s H sc (compEnvC sc cl C X.env) fq) vx tv)
    (hs : ∀ x, foldedSetIterable iter X.env x = pure x := by intro _; rfl) :
    PE X (.DictComp kx vx [⟨tg, iter, ifs, 0⟩] sc pos) (tDcA o0 wi gt tt tk tv (own.map (·.2))) := by
  refine ⟨fun pn s σ H Q In h => ?_⟩
  rw [arm_eval_DictComp]
  refine dcA_run n0 hu calm hN In hi ok pg pt pk pv hs h fun p C s' m H' I' q hn f => ⟨m, hn, fun h2 sb => ?_⟩
  obtain ⟨a0, a1, a2, a3, a4, a5⟩ := f
  exact ⟨.ref p, H', I'.turned (t' := s'.toks) (fun b o hb e => (sb.2 b hb).trans e) a0 a1 a3 a4 a5, rfl, q⟩
/-- stored at once in a local -/
theorem ps_setDcA {i : Nat} {y : Str} {py : Pos} {kx vx tg iter : Expr} {ifs : List Expr} {sc : Scope} {own : List (Str × Nat)} {pos spos : Pos} {o0 : HO} {wi : TI} {gt : TG} {tt : TT} {tk tv : TE}
    (n0 : NewD o0) (hu : X.A.units < cLine) (calm : X.calm = true) (hN : X.N.Nodup) (hy : X.N[i]? = some y) (loc : X.env.scope.names.lookup y = some .local)
    (sw : swapsWith (.DictComp kx vx [⟨tg, iter, ifs, 0⟩] sc pos) (some (.Name y py)) spos.line X.env = pure true) (hi : PI X tg iter wi) (ok : BlkOk X.N X.env.scope sc own)
    (pg : ∀ (s : Shared) (H : Hp) (C : Addr) (cl : List (Str × Addr)) (fq : List Addr), PG (X.blk s H sc (compEnvC sc cl C X.env) fq) tg gt)
    (pt : ∀ (s : Shared) (H : Hp) (C : Addr) (cl : List (Str × Addr)) (fq : List Addr), PTs (X.blk s H sc (compEnvC sc cl C X.env) fq) ifs tt)
    (pk : ∀ (s : Shared) (H : Hp) (C : Addr) (cl : List (Str × Addr)) (fq : List Addr), PE (X.blk s H sc (compEnvC sc cl C X.env) fq) kx tk)
    (pv : ∀ (s : Shared) (H : Hp) (C : Addr) (cl : List (Str × Addr)) (fq : List Addr), PE (X.blk s H sc (compEnvC sc cl C X.env) fq) vx tv)
    (hs : ∀ x, foldedSetIterable iter X.env x = pure x := by intro _; rfl) :
    PS X (.Assign [.Name y py] (.DictComp kx vx [⟨tg, iter, ifs, 0⟩] sc pos) spos) (tAsg (tDcA o0 wi gt tt tk tv (own.map (·.2))) (gName i)) := by
  refine ⟨fun pn s σ H Dn In h => ?_⟩
  rw [exec_Assign_Name_used _ _ _ _ sw]
  refine wpAny_bind ?_
  refine wpAny_standAt (wpAny_bind ?_)
  refine wpAny_bind (thn (dcA_run (use := some (assign (.Name y py) X.env)) (Qf := fun _ s' => SP X pn Dn .next s') n0 hu calm hN In hi ok pg pt pk pv hs h fun p C s' m H' I' q hn f => ?_) fun _ s' hq => wpAny_pure (wpAny_pure hq))
  show wpAny _ _ (assign (.Name y py) X.env (.ref p)) _ _ _
  refine wpAny_assign_Name (store_ok2 (v := V.ref p) I' hN hy (.inl loc) rfl (fun s2 I2 hz => ?_) (.inr loc))
  obtain ⟨a, sb, ha⟩ := hz
  obtain ⟨a0, a1, a2, a3, a4, a5⟩ := f
  have ne : C ≠ a := ha.elim (fun z => by rw [z]; exact a1) fun z => fun e => a4 y a z e.symm
  refine ⟨m, hn.sameBut sb ne, fun h3 sb3 => ?_⟩
  exact ⟨_, H', I2.turned (t' := s2.toks) (fun b o hb e => (sb3.2 b hb).trans e) a0 a1 a3 a4 a5, q⟩
end
end RE
set_option maxHeartbeats 2000000
namespace RE
open PySem PySem.Spec PyProof.Rows L2
/-- a kind of dicts: by keys that are numbers and texts, by keys that are tuples of them -/
structure DKind (κ : Type) [DecidableEq κ] where
  ho : List (κ × V) → HO
  dd : List (κ × D) → D
  key : D → Option κ
  new : NewD (ho [])
  nt : ∀ kvs, NT (ho kvs)
  put : ∀ (g : G) (A : Addr → Prop) (H : Hp) (y v : V) (d : D) (k : κ) (kvs : List (κ × V)) (p : Addr), Rp g A H y d → key d = some k → H p = some (ho kvs) → kvs.length < sizeLine → DPut H p y v (upd H p (ho (putK kvs k v)))
  rp : ∀ (g : G) (A : Addr → Prop) (H : Hp) (p : Addr) (kvs : List (κ × V)) (ds : List (κ × D)), H p = some (ho kvs) → ¬ A p → kvs.map (·.1) = ds.map (·.1) → RpA g A H (kvs.map (·.2)) (ds.map (·.2)) → Rp g A H (.ref p) (dd ds)
theorem pair_split {κ : Type} {g : G} {A : Addr → Prop} {H : Hp} {kvs : List (κ × V)} {ds : List (κ × D)} (hk : kvs.map (·.1) = ds.map (·.1)) (r : RpA g A H (kvs.map (·.2)) (ds.map (·.2))) :
    kvs.length = ds.length ∧ (∀ (i : Nat) x d, kvs[i]? = some x → ds[i]? = some d → x.1 = d.1) ∧ ∀ (i : Nat) x d, kvs[i]? = some x → ds[i]? = some d → Rp g A H x.2 d.2 := by
  refine ⟨by have := congrArg List.length hk; simpa using this, fun i x d h1 h2 => ?_, fun i x d h1 h2 => r.2 i x.2 d.2 (by rw [List.getElem?_map, h1]; rfl) (by rw [List.getElem?_map, h2]; rfl)⟩
  have e1 : (kvs.map (·.1))[i]? = some x.1 := by rw [List.getElem?_map, h1]; rfl
  have e2 : (ds.map (·.1))[i]? = some d.1 := by rw [List.getElem?_map, h2]; rfl
  rw [hk, e2] at e1
  exact (Option.some.inj e1).symm
def dkK : DKind Key where
  ho := .dK
  dd := .dK
  key := keyD
  new := .k
  nt := fun _ _ z => by cases z
  put := fun g A H y v d k kvs p r e hp hz => by
    rw [keyD_ok r e]
    exact DPut.k hp hz
  rp := fun g A H p kvs ds hp n hk r => by
    obtain ⟨a, b, c⟩ := pair_split hk r
    exact .dK (.inl hp) n a b c
def dkT : DKind (List Key) where
  ho := .dT
  dd := .dT
  key := keysD
  new := .t
  nt := fun _ _ z => by cases z
  put := fun g A H y v d k kvs p r e hp hz => by
    obtain ⟨b, rfl, hb⟩ := keysD_ok r e
    exact DPut.t hp hb hz
  rp := fun g A H p kvs ds hp n hk r => by
    obtain ⟨a, b, c⟩ := pair_split hk r
    exact .dT (.inl hp) n a b c
section
variable {κ : Type}
variable [DecidableEq κ]
def putE (ds : List (κ × D)) (k : κ) (d : D) : List (κ × D) := if (ds.any fun e => decide (e.1 = k)) = true then ds.map (fun e => if e.1 = k then (e.1, d) else e) else ds ++ [(k, d)]
theorem putE_len (ds : List (κ × D)) (k : κ) (d : D) : ds.length ≤ (putE ds k d).length := by
  unfold putE
  split
  · rw [List.length_map]; exact Nat.le_refl _
  · rw [List.length_append]; omega
theorem putE_ok {g : G} {A : Addr → Prop} {H : Hp} {kvs : List (κ × V)} {ds : List (κ × D)} {k : κ} {v : V} {d : D} (hk : kvs.map (·.1) = ds.map (·.1)) (r : RpA g A H (kvs.map (·.2)) (ds.map (·.2))) (rv : Rp g A H v d) :
    (putK kvs k v).map (·.1) = (putE ds k d).map (·.1) ∧ RpA g A H ((putK kvs k v).map (·.2)) ((putE ds k d).map (·.2)) := by
  have e : (kvs.any fun e => decide (e.1 = k)) = ds.any fun e => decide (e.1 = k) := by
    have q1 : (kvs.any fun e => decide (e.1 = k)) = (kvs.map (·.1)).any fun x => decide (x = k) := by rw [List.any_map]; rfl
    have q2 : (ds.any fun e => decide (e.1 = k)) = (ds.map (·.1)).any fun x => decide (x = k) := by rw [List.any_map]; rfl
    rw [q1, q2, hk]
  unfold putK putE
  rw [e]
  split
  · rename_i hany
    clear e hany
    induction kvs generalizing ds with
    | nil => cases ds with
      | nil => exact ⟨rfl, RpA.nil⟩
      | cons _ _ => cases hk
    | cons x xs ih => cases ds with
      | nil => cases hk
      | cons y ys =>
        have h1 : x.1 = y.1 := (List.cons.inj hk).1
        have h2 : xs.map (·.1) = ys.map (·.1) := (List.cons.inj hk).2
        obtain ⟨r1, r2⟩ := r.uncons
        obtain ⟨i1, i2⟩ := ih h2 r2
        by_cases hx : x.1 = k
        · have hy : y.1 = k := by rw [← h1]; exact hx
          simp only [List.map_cons, if_pos hx, if_pos hy]
          exact ⟨by rw [h1]; exact congrArg _ i1, RpA.cons rv i2⟩
        · have hy : ¬ y.1 = k := by rw [← h1]; exact hx
          simp only [List.map_cons, if_neg hx, if_neg hy]
          exact ⟨by rw [h1]; exact congrArg _ i1, RpA.cons r1 i2⟩
  · rw [List.map_append, List.map_append, List.map_append, List.map_append, hk]
    exact ⟨rfl, r.append (RpA.cons rv RpA.nil)⟩
variable (DK : DKind κ)
def dcS (tg : Tg) (tt : MT) (mk mv : M) (w : List Sl) : List D → List Ce → List (κ × D) → Option (List (κ × D) × List Ce)
  | [], ce, acc => some (acc, ce)
  | d :: ds, ce, acc => match tg d ⟨w, ce⟩ with
    | none => none
    | some st1 => match tt st1 with
      | .ok true st2 => match mk st2 with
        | .ok y st3 => match DK.key y with
          | some k => match mv st3 with
            | .ok z st4 => dcS tg tt mk mv w ds st4.ce (putE acc k z)
            | _ => none
          | none => none
        | _ => none
      | .ok false st2 => dcS tg tt mk mv w ds st2.ce acc
      | _ => none
def mDc (mi : MI) (tg : Tg) (tt : MT) (mk mv : M) (vs : List Nat) : M := fun st => bindO (mi st) fun ds st1 => match dcS DK tg tt mk mv (wipeS st1.sl vs) ds st1.ce [] with
  | some (xs, ce) => if xs.length ≤ 1000000 then .ok (DK.dd xs) (st1.with ce) else .no
  | none => .no
theorem dcS_len {tg : Tg} {tt : MT} {mk mv : M} {w : List Sl} : ∀ (ds : List D) (ce : List Ce) (acc : List (κ × D)) (r : List (κ × D) × List Ce), dcS DK tg tt mk mv w ds ce acc = some r → acc.length ≤ r.1.length
  | [], ce, acc, r, h => by cases Option.some.inj h; exact Nat.le_refl _
  | d :: ds, ce, acc, r, h => by
    unfold dcS at h
    split at h
    · cases h
    · split at h
      · split at h
        · split at h
          · split at h
            · exact Nat.le_trans (putE_len _ _ _) (dcS_len _ _ _ _ h)
            · cases h
          · cases h
        · cases h
      · exact dcS_len _ _ _ _ h
      · cases h
/-- a dict that grows at p, not spoken of -/
structure GrowD (g : G) (ρ0 : Rh) (st0 : S) (H0 : Hp) (σ : L2.St) (p : Addr) (ρ : Rh) (ce : List Ce) (H : Hp) (acc : List (κ × V)) (ds : List (κ × D)) : Prop where
  ext : Ext ρ0 st0 H0 (ρ.lev ρ0.U) (st0.with ce) H
  u : ρ.U = (ρ0.ent p).U
  sim : Sim g ρ σ H (st0.with ce)
  at' : H p = some (DK.ho acc)
  ks : acc.map (·.1) = ds.map (·.1)
  rp : RpA g (Vol ρ (st0.with ce)) H (acc.map (·.2)) (ds.map (·.2))
variable {DK}
variable {g : G} {ER : EK} {ρ0 ρ ρ' : Rh} {st0 st' : S} {H0 H H' : Hp} {σ σ' : L2.St} {p : Addr} {ce : List Ce} {acc : List (κ × V)} {ds : List (κ × D)}
theorem GrowD.zero (s : Sim g ρ0 σ H0 st0) (hp : H0 p = none) : GrowD DK g ρ0 st0 H0 σ p (ρ0.ent p) st0.ce (upd H0 p (DK.ho [])) [] [] where
  ext := Ext.zero hp s.uo
  u := rfl
  sim := s.ent hp (DK.nt _)
  at' := upd_same
  ks := rfl
  rp := RpA.nil
theorem GrowD.go (G : GrowD DK g ρ0 st0 H0 σ p ρ ce H acc ds) (h0 : H0 p = none) {stw : S} (hw : stw.ce = ce) (e : Ext ρ stw H ρ' st' H') (c : Cells g ρ' H' st') : GrowD DK g ρ0 st0 H0 σ p ρ' st'.ce H' acc ds where
  ext := Ext.step_lev G.ext G.u h0 (e.with hw)
  u := e.same.trans G.u
  sim := G.sim.back (e.with hw) c
  at' := by rw [e.un p (by rw [G.u]; exact .inr rfl)]; exact G.at'
  ks := G.ks
  rp := G.rp.go (e.with hw)
theorem GrowD.push (G : GrowD DK g ρ0 st0 H0 σ p ρ ce H acc ds) (h0 : H0 p = none) (su : ∀ a, ρ0.U a → ∃ u, H0 a = some u) {k : κ} {v : V} {d : D} (r : Rp g (Vol ρ (st0.with ce)) H v d) : GrowD DK g ρ0 st0 H0 σ p ρ ce (upd H p (DK.ho (putK acc k v))) (putK acc k v) (putE ds k d) where
  ext := Ext.touch G.ext h0 su
  u := G.u
  sim := G.sim.touch (by rw [G.u]; exact .inr rfl) (DK.nt _)
  at' := upd_same
  ks := (putE_ok G.ks G.rp r).1
  rp := (putE_ok G.ks G.rp r).2.ext (keep_touch (by rw [G.u]; exact .inr rfl))
theorem GrowD.end (G : GrowD DK g ρ0 st0 H0 σ p ρ ce H acc ds) (h0 : H0 p = none) (su : ∀ a, ρ0.U a → ∃ u, H0 a = some u) : Ext ρ0 st0 H0 (ρ.lev ρ0.U) (st0.with ce) H ∧ Sim g (ρ.lev ρ0.U) σ H (st0.with ce) ∧ Rp g (Vol (ρ.lev ρ0.U) (st0.with ce)) H (.ref p) (DK.dd ds) := by
  have hU : ∀ a, ρ0.U a → ρ.U a := fun a h => by rw [G.u]; exact .inl h
  refine ⟨G.ext, G.sim.lev hU, DK.rp g _ H p acc ds G.at' ?_ G.ks (G.rp.ext fun a o h n => ⟨h, fun v => n (vol_lev hU v)⟩)⟩
  rintro (v | ⟨k, c, h1, hc, h2⟩)
  · obtain ⟨u, hu⟩ := su p v
    rw [h0] at hu; cases hu
  · exact G.sim.out k c p h1 hc h2 (by rw [G.u]; exact .inr rfl)
theorem GrowD.kp (Gr : GrowD DK g ρ0 st0 H0 σ p ρ ce H acc ds) (hp : H0 p = none) : ∀ a o, H0 a = some o → ¬ Vol ρ0 st0 a → H a = some o ∧ ¬ Vol ρ (st0.with ce) a := fun a o h n => by
  obtain ⟨h1, n1⟩ := Gr.ext.keep a o h n
  refine ⟨h1, fun v => ?_⟩
  rcases v with v | v
  · rw [Gr.u] at v
    rcases v with v | v
    · exact n1 (.inl v)
    · rw [v, hp] at h; cases h
  · exact n1 (.inr v)
theorem tM_dc {mi : MI} {tgd : Tg} {t : TG} {is vs : List Nat} {tt : MT} {mk mv : M} (ok : GOk g tgd t is) (hv : ∀ i ∈ is, i ∈ vs) {σ : L2.St} {H : Hp} {Q : VK} (h : tM g ER (mDc DK mi tgd tt mk mv vs) σ H Q) :
    tDcA (DK.ho []) (tMI g ER mi) t (tMT g erNo tt) (tM g erNo mk) (tM g erNo mv) vs σ H Q := by
  obtain ⟨ρ, st, s, h⟩ := h
  refine ⟨ρ, st, s, (OutC.bind h).mono fun ds st0 ρ0 H0 _ h0 s0 J hJ => ?_⟩
  intro p hp
  cases er : dcS DK tgd tt mk mv (wipeS st0.sl vs) ds st0.ce [] with
  | none => simp only [er] at h0; exact h0.elim
  | some r =>
  obtain ⟨xs, ceE⟩ := r
  simp only [er] at h0
  by_cases hz : xs.length ≤ 1000000
  case neg => rw [if_neg hz] at h0; exact h0.elim
  rw [if_pos hz] at h0
  refine ⟨fun i m H' => m = ds.length - i ∧ i ≤ ds.length ∧ ∃ ρ ce acc dd, GrowD DK g ρ0 st0 H0 σ p ρ ce H' acc dd ∧ dcS DK tgd tt mk mv (wipeS st0.sl vs) (ds.drop i) ce dd = some (xs, ceE), ⟨ds.length, rfl, Nat.zero_le _, _, _, _, _, GrowD.zero s0 hp, er⟩, ?_⟩
  rintro i m H1 ⟨rfl, hi, ρ1, ce1, acc, dd, Gr, er1⟩
  by_cases hlt : i < ds.length
  · have hd : ds.drop i = ds[i] :: ds.drop (i + 1) := List.drop_eq_getElem_cons hlt
    rw [hd] at er1
    unfold dcS at er1
    have hget : ds[i]? = some ds[i] := List.getElem?_eq_getElem hlt
    obtain ⟨go, yl⟩ := (hJ (Vol ρ1 (st0.with ce1)) H1 (Gr.kp hp) (fun a v => Gr.sim.volT v) i).1 _ hget
    refine .inr ⟨go, fun H' => i + 1 ≤ ds.length ∧ ∃ ρ ce acc dd, GrowD DK g ρ0 st0 H0 σ p ρ ce H' acc dd ∧ dcS DK tgd tt mk mv (wipeS st0.sl vs) (ds.drop (i + 1)) ce dd = some (xs, ceE), fun H' ⟨a, b⟩ => ⟨ds.length - (i + 1), by omega, rfl, a, b⟩, fun x H2 hy => ?_⟩
    obtain ⟨hH, r2⟩ := yl x H2 hy
    obtain ⟨x2, s2⟩ := Ext.like Gr.sim hH
    cases e1 : tgd ds[i] ⟨wipeS st0.sl vs, ce1⟩ with
    | none => simp only [e1] at er1; cases er1
    | some st3 =>
    simp only [e1] at er1
    have G2 := Gr.go hp (stw := st0.with ce1) rfl x2 s2.toCells
    have sw := G2.sim.wipe vs
    refine ok ρ1 _ H2 ⟨wipeS st0.sl vs, ce1⟩ x _ st3 _ e1 sw r2 fun σ3 s3 ce3 hw => ?_
    have hww : wipe σ3 vs = wipe σ vs := by rw [hw vs hv]; exact wipe_wipe σ vs vs fun _ h => h
    refine ⟨ρ1, st3, s3, ?_⟩
    cases e2 : tt st3 with
    | no => simp only [e2] at er1; cases er1
    | er c v s => simp only [e2] at er1; cases er1
    | ok b st4 =>
    intro ρ4 H4 x4 s4
    have G4 := G2.go hp (stw := st3) ce3 x4 s4.toCells
    refine ⟨hww, ?_⟩
    cases b with
    | false =>
      simp only [e2] at er1
      rw [if_neg (by decide)]
      exact ⟨hlt, ρ4, st4.ce, acc, dd, G4, er1⟩
    | true =>
      simp only [e2] at er1
      rw [if_pos rfl]
      refine ⟨ρ4, st4, s4, ?_⟩
      cases e3 : mk st4 with
      | no => simp only [e3] at er1; cases er1
      | er c v s => simp only [e3] at er1; cases er1
      | ok y st5 =>
      simp only [e3] at er1
      intro ρ5 H5 x5 s5 u ru
      refine ⟨ρ5, st5, s5, ?_⟩
      cases e4 : DK.key y with
      | none => simp only [e4] at er1; cases er1
      | some k =>
      simp only [e4] at er1
      cases e5 : mv st5 with
      | no => simp only [e5] at er1; cases er1
      | er c v s => simp only [e5] at er1; cases er1
      | ok z st6 =>
      simp only [e5] at er1
      intro ρ6 H6 x6 s6 q rq
      have G5 := G4.go hp (stw := st4) rfl x5 s5.toCells
      have G6 := G5.go hp (stw := st5) rfl x6 s6.toCells
      have hl : acc.length = dd.length := by have := congrArg List.length G6.ks; simpa using this
      have hz2 := Nat.le_trans (putE_len dd k z) (dcS_len DK _ _ _ _ er1)
      have hz3 : acc.length < sizeLine := by
        have : (1000000 : Nat) < sizeLine := by decide
        have hz2 : dd.length ≤ xs.length := hz2
        omega
      refine ⟨_, DK.put g _ H6 u q y k acc p (ru.go x6) e4 G6.at' hz3, hlt, ρ6, st6.ce, _, _, G6.push hp s0.uo rq, er1⟩
  · have e : i = ds.length := by omega
    subst e
    rw [List.drop_length] at er1
    unfold dcS at er1
    cases Option.some.inj er1
    obtain ⟨q1, q2, q3⟩ := Gr.end hp s0.uo
    exact .inl ⟨(hJ _ H1 q1.keep (fun a v => q2.volT v) _).2 (Nat.le_refl _), h0 _ H1 q1 q2 _ q3⟩
section
variable {X : Cx} {kx vx tg iter : Expr} {ifs : List Expr} {sc : Scope} {own : List (Str × Nat)} {pos : Pos} {mi : MI} {tgd : Tg} {gt : TG} {is : List Nat} {tt : MT} {mk mv : M}
theorem pe_mDc (hu : X.A.units < cLine) (calm : X.calm = true) (hN : X.N.Nodup) (hi : PI X tg iter (tMI g ER mi)) (bk : BlkOk X.N X.env.scope sc own) (ok : GOk g tgd gt is) (hv : ∀ i ∈ is, i ∈ own.map (·.2))
    (pg : ∀ (s : Shared) (H : Hp) (C : Addr) (cl : List (Str × Addr)) (fq : List Addr), PG (X.blk s H sc (compEnvC sc cl C X.env) fq) tg gt)
    (pt : ∀ (s : Shared) (H : Hp) (C : Addr) (cl : List (Str × Addr)) (fq : List Addr), PTs (X.blk s H sc (compEnvC sc cl C X.env) fq) ifs (tMT g erNo tt))
    (pk : ∀ (s : Shared) (H : Hp) (C : Addr) (cl : List (Str × Addr)) (fq : List Addr), PE (X.blk s H sc (compEnvC sc cl C X.env) fq) kx (tM g erNo mk))
    (pv : ∀ (s : Shared) (H : Hp) (C : Addr) (cl : List (Str × Addr)) (fq : List Addr), PE (X.blk s H sc (compEnvC sc cl C X.env) fq) vx (tM g erNo mv))
    (hs : ∀ x, foldedSetIterable iter X.env x = pure x := by intro _; rfl) :
    PE X (.DictComp kx vx [⟨tg, iter, ifs, 0⟩] sc pos) (tM g ER (mDc DK mi tgd tt mk mv (own.map (·.2)))) := PEi (pe_dcA DK.new hu calm hN hi bk pg pt pk pv hs) fun _ _ _ h => tM_dc ok hv h
theorem ps_mDc {i : Nat} {y : Str} {py spos : Pos} (hu : X.A.units < cLine) (calm : X.calm = true) (hN : X.N.Nodup) (hy : X.N[i]? = some y) (loc : X.env.scope.names.lookup y = some .local)
    (sw : swapsWith (.DictComp kx vx [⟨tg, iter, ifs, 0⟩] sc pos) (some (.Name y py)) spos.line X.env = pure true) (hi : PI X tg iter (tMI g ER mi)) (bk : BlkOk X.N X.env.scope sc own) (ok : GOk g tgd gt is) (hv : ∀ i ∈ is, i ∈ own.map (·.2))
    (pg : ∀ (s : Shared) (H : Hp) (C : Addr) (cl : List (Str × Addr)) (fq : List Addr), PG (X.blk s H sc (compEnvC sc cl C X.env) fq) tg gt)
    (pt : ∀ (s : Shared) (H : Hp) (C : Addr) (cl : List (Str × Addr)) (fq : List Addr), PTs (X.blk s H sc (compEnvC sc cl C X.env) fq) ifs (tMT g erNo tt))
    (pk : ∀ (s : Shared) (H : Hp) (C : Addr) (cl : List (Str × Addr)) (fq : List Addr), PE (X.blk s H sc (compEnvC sc cl C X.env) fq) kx (tM g erNo mk))
    (pv : ∀ (s : Shared) (H : Hp) (C : Addr) (cl : List (Str × Addr)) (fq : List Addr), PE (X.blk s H sc (compEnvC sc cl C X.env) fq) vx (tM g erNo mv))
    (hs : ∀ x, foldedSetIterable iter X.env x = pure x := by intro _; rfl) :
    PS X (.Assign [.Name y py] (.DictComp kx vx [⟨tg, iter, ifs, 0⟩] sc pos) spos) (tMS g ER (mAsg i (mDc DK mi tgd tt mk mv (own.map (·.2))))) := by
  refine PSi (ps_setDcA DK.new hu calm hN hy loc sw hi bk pg pt pk pv hs) fun E σ H h => ?_
  obtain ⟨ρ, st, s, h⟩ := h
  refine tM_dc ok hv ⟨ρ, st, s, (OutS.bind h).mono fun d st1 ρ1 H1 _ h1 s1 v rv => ?_⟩
  exact h1 ρ1 _ H1 (Ext.put i _) (s1.put i ⟨v, rfl, rv⟩)
end
end
end RE
set_option maxHeartbeats 2000000
namespace RE
open PySem PySem.Spec PyProof.Rows L2
def S.addC (st : S) (i : Nat) (c : Ce) : S := ⟨st.sl.set i (.rf st.ce.length), st.ce ++ [c]⟩
def S.setC (st : S) (k : Nat) (c : Ce) : S := ⟨st.sl, st.ce.set k c⟩
/-- a cell as a datum -/
def Ce.dat : Ce → Option D
  | .dead => none
  | .l ds => some (.lst ds)
  | .dK ds => some (.dK ds)
  | .dT ds => some (.dT ds)
  | _ => none
/-- from here on a datum, for whoever holds it -/
def S.frz (st : S) (k : Nat) (d : D) : S := ⟨st.sl.map fun s => match s with
  | .rf j => if j = k then .d d else s
  | _ => s, st.ce.set k .dead⟩
theorem Ce.alive_of {c : Ce} {d : D} (h : c.dat = some d) : c.alive = true := by cases c <;> first | rfl | cases h
def Rh.addC (ρ : Rh) (p : Addr) : Rh := ⟨ρ.ad ++ [p], ρ.U⟩
section
variable {g : G} {ρ ρ' : Rh} {σ σ' : L2.St} {H H' : Hp} {st st' : S} {p a : Addr} {o : HO} {i k : Nat} {c : Ce} {d : D}
theorem vol_addC {b : Addr} (hl : ρ.ad.length = st.ce.length) : Vol (ρ.addC p) (st.addC i c) b → Vol ρ st b ∨ b = p := by
  rintro (v | ⟨j, c', h1, h2, h3⟩)
  · exact .inl (.inl v)
  · have h1 : (st.ce ++ [c])[j]? = some c' := h1
    have h3 : (ρ.ad ++ [p])[j]? = some b := h3
    by_cases hj : j < st.ce.length
    · rw [List.getElem?_append_left hj] at h1
      rw [List.getElem?_append_left (by rw [hl]; exact hj)] at h3
      exact .inl (.inr ⟨j, c', h1, h2, h3⟩)
    · rw [List.getElem?_append_right (by rw [hl]; omega), hl] at h3
      cases e : j - st.ce.length with
      | zero => rw [e] at h3; exact .inr (Option.some.inj h3).symm
      | succ n => rw [e] at h3; simp at h3
theorem vol_addC' {b : Addr} (hl : ρ.ad.length = st.ce.length) (v : Vol ρ st b) : Vol (ρ.addC p) (st.addC i c) b := by
  rcases v with v | ⟨j, c', h1, h2, h3⟩
  · exact .inl v
  · obtain ⟨hj, _⟩ := List.getElem?_eq_some_iff.mp h1
    exact .inr ⟨j, c', by show (st.ce ++ [c])[j]? = _; rw [List.getElem?_append_left hj]; exact h1, h2, by show (ρ.ad ++ [p])[j]? = _; rw [List.getElem?_append_left (by rw [hl]; exact hj)]; exact h3⟩
theorem Ext.addC (s : Sim g ρ σ H st) (hp : H p = none) : Ext ρ st H (ρ.addC p) (st.addC i c) (upd H p o) where
  keep := fun b u h n => ⟨by rw [upd_ne (ne_of_none h hp)]; exact h, fun v => by
    rcases vol_addC s.clen v with v | v
    · exact n v
    · rw [v, hp] at h; cases h⟩
  pre := fun j b h => by
    obtain ⟨hj, _⟩ := List.getElem?_eq_some_iff.mp h
    show (ρ.ad ++ [p])[j]? = _
    rw [List.getElem?_append_left hj]; exact h
  same := rfl
  un := fun b h => by
    obtain ⟨u, hu⟩ := s.uo b h
    exact upd_ne (ne_of_none hu hp)
  more := fun b v => by
    rcases vol_addC s.clen v with v | v
    · exact .inl v
    · right; rw [v]; exact hp
  mono := fun b h => by
    by_cases e : b = p
    · rw [e]; exact hp
    · rw [upd_ne e] at h; exact h
theorem Sim.addC (s : Sim g ρ σ H st) (hp : H p = none) (hc : CeOk g (Vol (ρ.addC p) (st.addC i c)) (ρ.addC p).ad (upd H p o) p c) : Sim g (ρ.addC p) (σ.set i (some (.ref p))) (upd H p o) (st.addC i c) where
  uok := fun b h => by
    obtain ⟨u, hu, nt⟩ := s.uok b h
    exact ⟨u, by rw [upd_ne (ne_of_none hu hp)]; exact hu, nt⟩
  clen := by show (ρ.ad ++ [p]).length = (st.ce ++ [c]).length; rw [List.length_append, List.length_append, s.clen]; rfl
  cell := fun j c' b h1 h2 => by
    have h1 : (st.ce ++ [c])[j]? = some c' := h1
    have h2 : (ρ.ad ++ [p])[j]? = some b := h2
    by_cases hj : j < st.ce.length
    · rw [List.getElem?_append_left hj] at h1
      rw [List.getElem?_append_left (by rw [s.clen]; exact hj)] at h2
      by_cases ha : c'.alive = true
      · obtain ⟨u, hu⟩ := s.vol (a := b) (.inr ⟨j, c', h1, ha, h2⟩)
        exact (s.cell j c' b h1 h2).ext (upd_ne (ne_of_none hu hp)) (Ext.addC (c := c) (i := i) s hp).keep (Ext.addC (c := c) (i := i) (o := o) s hp).pre
      · cases c' <;> first | trivial | exact absurd rfl ha
    · rw [List.getElem?_append_right (by omega)] at h1
      rw [List.getElem?_append_right (by rw [s.clen]; omega), s.clen] at h2
      cases e : j - st.ce.length with
      | zero =>
        rw [e] at h1 h2
        cases Option.some.inj h1
        cases Option.some.inj h2
        exact hc
      | succ n => rw [e] at h1; simp at h1
  inj := fun j l c1 c2 b h1 h2 a1 a2 e1 e2 => by
    have h1 : (st.ce ++ [c])[j]? = some c1 := h1
    have h2 : (st.ce ++ [c])[l]? = some c2 := h2
    have e1 : (ρ.ad ++ [p])[j]? = some b := e1
    have e2 : (ρ.ad ++ [p])[l]? = some b := e2
    have split : ∀ (m : Nat) (c3 : Ce), (st.ce ++ [c])[m]? = some c3 → (ρ.ad ++ [p])[m]? = some b → (m < st.ce.length ∧ st.ce[m]? = some c3 ∧ ρ.ad[m]? = some b) ∨ (m = st.ce.length ∧ b = p) := fun m c3 q1 q2 => by
      by_cases hj : m < st.ce.length
      · rw [List.getElem?_append_left hj] at q1
        rw [List.getElem?_append_left (by rw [s.clen]; exact hj)] at q2
        exact .inl ⟨hj, q1, q2⟩
      · rw [List.getElem?_append_right (by omega)] at q1
        rw [List.getElem?_append_right (by rw [s.clen]; omega), s.clen] at q2
        cases e : m - st.ce.length with
        | zero => rw [e] at q2; exact .inr ⟨by omega, (Option.some.inj q2).symm⟩
        | succ n => rw [e] at q1; simp at q1
    rcases split j c1 h1 e1 with ⟨_, q1, q2⟩ | ⟨q1, q2⟩
    · rcases split l c2 h2 e2 with ⟨_, r1, r2⟩ | ⟨r1, r2⟩
      · exact s.inj j l c1 c2 b q1 r1 a1 a2 q2 r2
      · obtain ⟨u, hu⟩ := s.vol (a := b) (.inr ⟨j, c1, q1, a1, q2⟩)
        rw [r2, hp] at hu; cases hu
    · rcases split l c2 h2 e2 with ⟨_, r1, r2⟩ | ⟨r1, r2⟩
      · obtain ⟨u, hu⟩ := s.vol (a := b) (.inr ⟨l, c2, r1, a2, r2⟩)
        rw [q2, hp] at hu; cases hu
      · rw [q1, r1]
  out := fun j c' b h1 ha h2 v => by
    have v' : ρ.U b := v
    obtain ⟨u, hu⟩ := s.uo b v'
    rcases vol_addC (c := c) (i := i) s.clen (.inr ⟨j, c', h1, ha, h2⟩ : Vol (ρ.addC p) (st.addC i c) b) with q | q
    · have h1 : (st.ce ++ [c])[j]? = some c' := h1
      have h2 : (ρ.ad ++ [p])[j]? = some b := h2
      by_cases hj : j < st.ce.length
      · rw [List.getElem?_append_left hj] at h1
        rw [List.getElem?_append_left (by rw [s.clen]; exact hj)] at h2
        exact s.out j c' b h1 ha h2 v'
      · rw [List.getElem?_append_right (by rw [s.clen]; omega), s.clen] at h2
        cases e : j - st.ce.length with
        | zero =>
          rw [e] at h2
          cases Option.some.inj h2
          rw [hp] at hu; cases hu
        | succ n => rw [e] at h2; simp at h2
    · rw [q, hp] at hu; cases hu
  len := by show (σ.set i _).length = (st.sl.set i _).length; rw [List.length_set, List.length_set]; exact s.len
  slot := fun j sl v h1 h2 => by
    have h1 : (st.sl.set i (.rf st.ce.length))[j]? = some sl := h1
    rw [List.getElem?_set] at h1 h2
    by_cases e : i = j
    · rw [if_pos e] at h1 h2
      split at h1
      · split at h2
        · cases Option.some.inj h1
          cases Option.some.inj h2
          exact ⟨p, rfl, by show (ρ.ad ++ [p])[st.ce.length]? = _; rw [List.getElem?_append_right (by rw [s.clen]; exact Nat.le_refl _), s.clen, Nat.sub_self]; rfl⟩
        · cases h2
      · cases h1
    · rw [if_neg e] at h1 h2
      exact (s.slot j sl v h1 h2).ext (Ext.addC (c := c) (i := i) s hp).keep (Ext.addC (c := c) (i := i) (o := o) s hp).pre
/-- a cell that is written -/
theorem vol_setC {b : Addr} (hk : ∃ c0, st.ce[k]? = some c0 ∧ c0.alive = true) : Vol ρ (st.setC k c) b → Vol ρ st b := by
  rintro (v | ⟨j, c', h1, h2, h3⟩)
  · exact .inl v
  · have h1 : (st.ce.set k c)[j]? = some c' := h1
    rw [List.getElem?_set] at h1
    by_cases e : k = j
    · obtain ⟨c0, q1, q2⟩ := hk
      exact .inr ⟨j, c0, by rw [← e]; exact q1, q2, h3⟩
    · rw [if_neg e] at h1
      exact .inr ⟨j, c', h1, h2, h3⟩
theorem Ext.setC {c0 : Ce} (s : Sim g ρ σ H st) (hk : st.ce[k]? = some c0) (h0 : c0.alive = true) (ha : ρ.ad[k]? = some a) : Ext ρ st H ρ (st.setC k c) (upd H a o) where
  keep := fun b u h n => ⟨by rw [upd_ne (fun e => n (by rw [e]; exact .inr ⟨k, c0, hk, h0, ha⟩))]; exact h, fun v => n (vol_setC ⟨c0, hk, h0⟩ v)⟩
  pre := fun _ _ h => h
  same := rfl
  un := fun b h => upd_ne fun e => s.out k c0 a hk h0 ha (by rw [← e]; exact h)
  more := fun b v => .inl (vol_setC ⟨c0, hk, h0⟩ v)
  mono := fun b h => by
    by_cases e : b = a
    · rw [e, upd_same] at h; cases h
    · rw [upd_ne e] at h; exact h
theorem Sim.setC {c0 : Ce} (s : Sim g ρ σ H st) (hk : st.ce[k]? = some c0) (h0 : c0.alive = true) (ha : ρ.ad[k]? = some a) (hc1 : c.alive = true) (hc : CeOk g (Vol ρ (st.setC k c)) ρ.ad (upd H a o) a c) : Sim g ρ σ (upd H a o) (st.setC k c) where
  uok := fun b h => by
    by_cases e : b = a
    · rw [e]; exact hc.nt hc1
    · rw [upd_ne e]; exact s.uok b h
  clen := by show ρ.ad.length = (st.ce.set k c).length; rw [List.length_set]; exact s.clen
  cell := fun j c' b h1 h2 => by
    have h1 : (st.ce.set k c)[j]? = some c' := h1
    rw [List.getElem?_set] at h1
    by_cases e : k = j
    · rw [if_pos e] at h1
      split at h1
      · cases Option.some.inj h1
        rw [← e, ha] at h2
        cases Option.some.inj h2
        exact hc
      · cases h1
    · rw [if_neg e] at h1
      by_cases hal : c'.alive = true
      · refine (s.cell j c' b h1 h2).ext (upd_ne fun z => e ?_) (Ext.setC s hk h0 ha).keep
        exact s.inj k j c0 c' b hk h1 h0 hal (by rw [z]; exact ha) h2
      · cases c' <;> first | trivial | exact absurd rfl hal
  inj := fun j l c1 c2 b h1 h2 a1 a2 e1 e2 => by
    have old : ∀ (m : Nat) (c3 : Ce), (st.ce.set k c)[m]? = some c3 → c3.alive = true → ∃ c4, st.ce[m]? = some c4 ∧ c4.alive = true := fun m c3 q q' => by
      rw [List.getElem?_set] at q
      by_cases e : k = m
      · exact ⟨c0, by rw [← e]; exact hk, h0⟩
      · rw [if_neg e] at q; exact ⟨c3, q, q'⟩
    obtain ⟨c3, q1, q2⟩ := old j c1 h1 a1
    obtain ⟨c4, q3, q4⟩ := old l c2 h2 a2
    exact s.inj j l c3 c4 b q1 q3 q2 q4 e1 e2
  out := fun j c1 b h1 a1 e1 v => by
    have h1 : (st.ce.set k c)[j]? = some c1 := h1
    rw [List.getElem?_set] at h1
    by_cases e : k = j
    · exact s.out j c0 b (by rw [← e]; exact hk) h0 e1 v
    · rw [if_neg e] at h1; exact s.out j c1 b h1 a1 e1 v
  len := s.len
  slot := fun j sl v h1 h2 => (s.slot j sl v h1 h2).ext (Ext.setC s hk h0 ha).keep fun _ _ h => h
/-- a cell that is let go -/
theorem vol_frz {b : Addr} : Vol ρ (st.frz k d) b → Vol ρ st b := by
  rintro (v | ⟨j, c', h1, h2, h3⟩)
  · exact .inl v
  · have h1 : (st.ce.set k .dead)[j]? = some c' := h1
    rw [List.getElem?_set] at h1
    by_cases e : k = j
    · rw [if_pos e] at h1
      split at h1
      · cases Option.some.inj h1; cases h2
      · cases h1
    · rw [if_neg e] at h1
      exact .inr ⟨j, c', h1, h2, h3⟩
theorem Ext.frz : Ext ρ st H ρ (st.frz k d) H where
  keep := fun b u h n => ⟨h, fun v => n (vol_frz v)⟩
  pre := fun _ _ h => h
  same := rfl
  un := fun _ _ => rfl
  more := fun b v => .inl (vol_frz v)
  mono := fun _ h => h
theorem frz_rp {c0 : Ce} (s : Sim g ρ σ H st) (hk : st.ce[k]? = some c0) (hd : c0.dat = some d) (ha : ρ.ad[k]? = some a) : Rp g (Vol ρ (st.frz k d)) H (.ref a) d := by
  have al := Ce.alive_of hd
  have nv : ¬ Vol ρ (st.frz k d) a := by
    rintro (v | ⟨j, c', h1, h2, h3⟩)
    · exact s.out k c0 a hk al ha v
    · have h1 : (st.ce.set k .dead)[j]? = some c' := h1
      rw [List.getElem?_set] at h1
      by_cases e : k = j
      · rw [if_pos e] at h1
        split at h1
        · cases Option.some.inj h1; cases h2
        · cases h1
      · rw [if_neg e] at h1
        exact e (s.inj k j c0 c' a hk h1 al h2 ha h3)
  have kp : ∀ a o, H a = some o → ¬ Vol ρ st a → H a = some o ∧ ¬ Vol ρ (st.frz k d) a := fun b u h n => ⟨h, fun v => n (vol_frz v)⟩
  have q := s.cell k c0 a hk ha
  cases c0 with
  | dead => cases hd
  | l ds => cases Option.some.inj hd; obtain ⟨xs, e, r⟩ := q; exact Rp.lst' e nv (r.ext kp)
  | dK ds => cases Option.some.inj hd; obtain ⟨xs, e, q, r⟩ := q; exact dkK.rp g _ H a xs ds e nv q (r.ext kp)
  | dT ds => cases Option.some.inj hd; obtain ⟨xs, e, q, r⟩ := q; exact dkT.rp g _ H a xs ds e nv q (r.ext kp)
  | _ => cases hd
theorem Sim.frz {c0 : Ce} (s : Sim g ρ σ H st) (hk : st.ce[k]? = some c0) (hd : c0.dat = some d) : Sim g ρ σ H (st.frz k d) where
  uok := s.uok
  clen := by show ρ.ad.length = (st.ce.set k .dead).length; rw [List.length_set]; exact s.clen
  cell := fun j c' b h1 h2 => by
    have h1 : (st.ce.set k .dead)[j]? = some c' := h1
    rw [List.getElem?_set] at h1
    by_cases e : k = j
    · rw [if_pos e] at h1
      split at h1
      · cases Option.some.inj h1; trivial
      · cases h1
    · rw [if_neg e] at h1
      exact (s.cell j c' b h1 h2).ext rfl fun _ _ h n => ⟨h, fun v => n (vol_frz v)⟩
  inj := fun j l c1 c2 b h1 h2 a1 a2 e1 e2 => by
    have old : ∀ (m : Nat) (c3 : Ce), (st.ce.set k .dead)[m]? = some c3 → c3.alive = true → st.ce[m]? = some c3 := fun m c3 q q' => by
      rw [List.getElem?_set] at q
      by_cases e : k = m
      · rw [if_pos e] at q
        split at q
        · cases Option.some.inj q; cases q'
        · cases q
      · rw [if_neg e] at q; exact q
    exact s.inj j l c1 c2 b (old j c1 h1 a1) (old l c2 h2 a2) a1 a2 e1 e2
  out := fun j c1 b h1 a1 e1 v => by
    have h1 : (st.ce.set k .dead)[j]? = some c1 := h1
    rw [List.getElem?_set] at h1
    by_cases e : k = j
    · rw [if_pos e] at h1
      split at h1
      · cases Option.some.inj h1; cases a1
      · cases h1
    · rw [if_neg e] at h1; exact s.out j c1 b h1 a1 e1 v
  len := by show σ.length = (st.sl.map _).length; rw [List.length_map]; exact s.len
  slot := fun j sl v h1 h2 => by
    have h1 : (st.sl.map _)[j]? = some sl := h1
    rw [List.getElem?_map] at h1
    obtain ⟨sl0, q0, q1⟩ := Option.map_eq_some_iff.mp h1
    have q := s.slot j sl0 v q0 h2
    cases sl0 with
    | no => cases q1; trivial
    | d x => cases q1; obtain ⟨u, eu, r⟩ := q; exact ⟨u, eu, r.ext fun _ _ h n => ⟨h, fun v => n (vol_frz v)⟩⟩
    | rf m =>
      obtain ⟨b, eb, hb⟩ := q
      by_cases e : m = k
      · have q1 : (if m = k then Sl.d d else Sl.rf m) = sl := q1
        rw [if_pos e] at q1
        subst q1
        refine ⟨.ref b, eb, frz_rp s hk hd ?_⟩
        rw [← e]; exact hb
      · have q1 : (if m = k then Sl.d d else Sl.rf m) = sl := q1
        rw [if_neg e] at q1
        subst q1
        exact ⟨b, eb, hb⟩
theorem Sim.rf (s : Sim g ρ σ H st) (h : st.sl[i]? = some (.rf k)) : ∃ a, σ[i]? = some (some (.ref a)) ∧ ρ.ad[k]? = some a := by
  obtain ⟨hi, _⟩ := (List.getElem?_eq_some_iff).mp h
  have hs : i < σ.length := by rw [s.len]; exact hi
  obtain ⟨a, e, q⟩ := s.slot i _ _ h (List.getElem?_eq_getElem hs)
  exact ⟨a, by rw [List.getElem?_eq_getElem hs, e], q⟩
end
end RE
set_option maxHeartbeats 2000000
namespace RE
open PySem PySem.Spec PyProof.Rows L2
section
variable {X : Cx} {g : G} {ER : EK} {pos pos' : Pos}
def mNew (i : Nat) (c : Ce) : MS := fun st => .nx (st.addC i c)
theorem ps_mNewL {i : Nat} {x : Str} (hN : X.N.Nodup) (hi : X.N[i]? = some x) (hx : Loc X.env.scope x) (hs : swapsWith (.List [] pos) (some (.Name x pos')) pos.line X.env = pure false := by rfl) (hf : X.fn x = true ∨ X.env.scope.names.lookup x = some .local := by first | exact .inl rfl | exact .inr rfl) {spos : Pos} (hs : swapsWith (.List [] pos) (some (.Name x pos')) spos.line X.env = pure false := by rfl) :
    PS X (.Assign [.Name x pos'] (.List [] pos) spos) (tMS g ER (mNew i (.l []))) := by
  refine PSi (ps_set hN hi hx (pe_lst pa_nil) hs hf) fun E σ H h => ?_
  obtain ⟨ρ, st, s, h⟩ := h
  refine ⟨Nat.zero_le _, fun p hp => ?_⟩
  exact h (ρ.addC p) _ _ (Ext.addC s hp) (s.addC hp ⟨[], upd_same, RpA.nil⟩)
theorem ps_mNewK {i : Nat} {x : Str} (hN : X.N.Nodup) (hi : X.N[i]? = some x) (hx : Loc X.env.scope x) (hf : X.fn x = true ∨ X.env.scope.names.lookup x = some .local := by first | exact .inl rfl | exact .inr rfl) {spos : Pos} (hs : swapsWith (.Dict [] [] pos) (some (.Name x pos')) spos.line X.env = pure false := by rfl) :
    PS X (.Assign [.Name x pos'] (.Dict [] [] pos) spos) (tMS g ER (mNew i (.dK []))) := by
  refine PSi (ps_set hN hi hx pe_dnewK hs hf) fun E σ H h => ?_
  obtain ⟨ρ, st, s, h⟩ := h
  exact fun p hp => h (ρ.addC p) _ _ (Ext.addC s hp) (s.addC hp ⟨[], upd_same, rfl, RpA.nil⟩)
theorem ps_mNewT {i : Nat} {x : Str} (hN : X.N.Nodup) (hi : X.N[i]? = some x) (hx : Loc X.env.scope x) (hf : X.fn x = true ∨ X.env.scope.names.lookup x = some .local := by first | exact .inl rfl | exact .inr rfl) {spos : Pos} (hs : swapsWith (.Dict [] [] pos) (some (.Name x pos')) spos.line X.env = pure false := by rfl) :
    PS X (.Assign [.Name x pos'] (.Dict [] [] pos) spos) (tMS g ER (mNew i (.dT []))) := by
  refine PSi (ps_set hN hi hx pe_dnewT hs hf) fun E σ H h => ?_
  obtain ⟨ρ, st, s, h⟩ := h
  exact fun p hp => h (ρ.addC p) _ _ (Ext.addC s hp) (s.addC hp ⟨[], upd_same, rfl, RpA.nil⟩)
/-- x = a + b, two lists: a cell of its own -/
def mAddL (i : Nat) (ma mb : M) : MS := fun st => bindS (ma st) fun a st1 => bindS (mb st1) fun b st2 => match a, b with
  | .lst ds, .lst es => if ds.length + es.length ≤ lim then .nx (st2.addC i (.l (ds ++ es))) else .no
  | _, _ => .no
theorem ps_mAddL {i : Nat} {x : Str} {a b : Expr} {ma mb : M} (hN : X.N.Nodup) (hi : X.N[i]? = some x) (hx : Loc X.env.scope x) (ha : PE X a (tM g ER ma)) (hb : PE X b (tM g ER mb)) {bp spos : Pos} (hs : swapsWith (.BinOp a .Add b bp) (some (.Name x pos')) spos.line X.env = pure false := by rfl) (hf : X.fn x = true ∨ X.env.scope.names.lookup x = some .local := by first | exact .inl rfl | exact .inr rfl) :
    PS X (.Assign [.Name x pos'] (.BinOp a .Add b bp) spos) (tMS g ER (mAddL i ma mb)) := by
  refine PSi (ps_set hN hi hx (pe_op op_cat ha hb) hs hf) fun E σ H h => ?_
  obtain ⟨ρ, st, s, h⟩ := h
  refine ⟨ρ, st, s, (OutS.bind h).mono fun d st1 ρ1 H1 _ h1 s1 v rv => ?_⟩
  refine ⟨ρ1, st1, s1, (OutS.bind h1).mono fun e st2 ρ2 H2 x2 h2 s2 u ru => ?_⟩
  cases d with
  | lst ds =>
    cases e with
    | lst es =>
      by_cases hz : ds.length + es.length ≤ lim
      · simp only [if_pos hz] at h2
        obtain ⟨a, xs, rfl, ha, na, ra⟩ := (rv.go x2).inv_lst
        obtain ⟨b, ys, rfl, hb, nb, rb⟩ := ru.inv_lst
        refine ⟨a, b, xs, ys, rfl, rfl, ha, hb, lim_ok (by rw [ra.1, rb.1]; exact hz), fun p hp => ?_⟩
        have xe := Ext.addC (c := .l (ds ++ es)) (i := i) (o := .lst (xs ++ ys)) s2 hp
        exact h2 (ρ2.addC p) _ _ xe (s2.addC hp ⟨xs ++ ys, upd_same, (ra.append rb).ext xe.keep⟩)
      · simp only [if_neg hz] at h2; exact h2.elim
    | _ => exact h2.elim
  | _ => exact h2.elim
def mVarF (i : Nat) : M := fun st => match st.sl[i]? with
  | some (.d x) => .ok x st
  | some (.rf k) => match st.ce[k]? with
    | some c => match c.dat with
      | some d => .ok d (st.frz k d)
      | none => .no
    | none => .no
  | _ => .no
theorem pe_mVarF {i : Nat} {x : Str} (p : PE X (.Name x pos) (tVar i)) : PE X (.Name x pos) (tM g ER (mVarF i)) := by
  refine PEi p fun σ H Q h => ?_
  obtain ⟨ρ, st, s, h⟩ := h
  cases e : st.sl[i]? with
  | none => simp only [mVarF, e] at h; exact h.elim
  | some sl =>
    cases sl with
    | no => simp only [mVarF, e] at h; exact h.elim
    | d y =>
      simp only [mVarF, e] at h
      obtain ⟨hi, _⟩ := List.getElem?_eq_some_iff.mp e
      have hs : i < σ.length := by rw [s.len]; exact hi
      obtain ⟨u, hu, r⟩ := s.slot i _ _ e (List.getElem?_eq_getElem hs)
      exact ⟨u, by rw [List.getElem?_eq_getElem hs, hu], h ρ H Ext.refl s u r⟩
    | rf k =>
      cases e2 : st.ce[k]? with
      | none => simp only [mVarF, e, e2] at h; exact h.elim
      | some c =>
        cases e3 : c.dat with
        | none => simp only [mVarF, e, e2, e3] at h; exact h.elim
        | some d =>
          simp only [mVarF, e, e2, e3] at h
          obtain ⟨a, hu, ha⟩ := s.rf e
          exact ⟨_, hu, h ρ H Ext.frz (s.frz e2 e3) _ (frz_rp s e2 e3 ha)⟩
/-- a slot's datum, be it a cell's -/
def S.look (st : S) (i : Nat) : Option D := match st.sl[i]? with
  | some (.d x) => some x
  | some (.rf k) => match st.ce[k]? with
    | some c => c.dat
    | none => none
  | _ => none
theorem look_ok {ρ : Rh} {σ : L2.St} {H : Hp} {st : S} {i : Nat} {d : D} (s : Sim g ρ σ H st) (e : st.look i = some d) : ∃ u, σ[i]? = some (some u) ∧ Rp g (fun _ => False) H u d := by
  have any : ∀ {A : Addr → Prop} {v : V} {x : D}, Rp g A H v x → Rp g (fun _ => False) H v x := fun r => r.back fun a f => f.elim
  unfold S.look at e
  cases e1 : st.sl[i]? with
  | none => simp only [e1] at e; cases e
  | some sl =>
    cases sl with
    | no => simp only [e1] at e; cases e
    | d y =>
      simp only [e1] at e
      cases Option.some.inj e
      obtain ⟨hi, _⟩ := List.getElem?_eq_some_iff.mp e1
      have hs : i < σ.length := by rw [s.len]; exact hi
      obtain ⟨u, hu, r⟩ := s.slot i _ _ e1 (List.getElem?_eq_getElem hs)
      exact ⟨u, by rw [List.getElem?_eq_getElem hs, hu], any r⟩
    | rf k =>
      cases e2 : st.ce[k]? with
      | none => simp only [e1, e2] at e; cases e
      | some c =>
        simp only [e1, e2] at e
        obtain ⟨a, hu, ha⟩ := s.rf e1
        exact ⟨_, hu, any (frz_rp s e2 e ha)⟩
def mInB (neg : Bool) (ma : M) (i : Nat) : M := fun st => bindO (ma st) fun a st1 => match st1.look i with
  | some d => match inD neg a d with
    | some (.bl b) => .ok (.bl b) st1
    | _ => .no
  | none => .no
theorem in_b {A : Addr → Prop} {H : Hp} {x y : V} {dx dy : D} {neg b : Bool} {Q : VK} (e : inD neg dx dy = some (.bl b)) (rx : Rp g A H x dx) (ry : Rp g A H y dy) (k : Q (.bl b) H) : rInP g.K neg x y H Q ∨ rInDc neg x y H Q := by
  unfold inD at e
  cases e1 : seqD dy with
  | some ds =>
    simp only [e1] at e
    obtain ⟨a, ys, rfl, hy, rs⟩ := ry.seq e1
    unfold memD at e
    cases e2 : toP 20 dx with
    | none => simp only [e2] at e; cases e
    | some p =>
      cases e3 : mapO (toP 20) ds with
      | none => simp only [e2, e3] at e; cases e
      | some ps =>
        simp only [e2, e3] at e
        obtain ⟨a1, a2, a3⟩ := toP_ok 20 dx p x e2 rx
        obtain ⟨b1, b2, b3⟩ := toP_all e3 rs
        have eb := Option.some.inj e
        refine .inl ⟨p, ps, a1, ?_, a2, b2, by omega, by omega, ?_⟩
        · rcases hy with hy | hy
          · exact .inl (.lst hy b1)
          · exact .inr (.tup hy b1)
        · injection eb with eb; rw [← eb] at k; exact k
  | none =>
    simp only [e1] at e
    cases e2 : getD dy dx with
    | none => simp only [e2] at e; cases e
    | some o =>
      simp only [e2] at e
      obtain ⟨a, ov, rfl, gd, h⟩ := getD_ok ry rx e2
      have eb := Option.some.inj e
      refine .inr ⟨a, ov, rfl, gd, ?_⟩
      have eo : ov.isSome = o.isSome := by
        rcases h with ⟨h1, h2⟩ | ⟨_, _, h1, h2, _⟩ <;> rw [h1, h2] <;> rfl
      rw [eo]
      injection eb with eb; rw [← eb] at k; exact k
theorem tM_inB {neg : Bool} {ma : M} {i : Nat} {σ : L2.St} {H : Hp} {Q : VK} (h : tM g ER (mInB neg ma i) σ H Q) : tOp (fun x y H Q => rInP g.K neg x y H Q ∨ rInDc neg x y H Q) (tM g ER ma) (tVar i) σ H Q := by
  obtain ⟨ρ, st, s, h⟩ := h
  refine ⟨ρ, st, s, (OutC.bind h).mono fun a st1 ρ1 H1 _ h1 s1 x rx => ?_⟩
  cases e : st1.look i with
  | none => simp only [e] at h1; exact h1.elim
  | some d =>
    simp only [e] at h1
    obtain ⟨u, hu, r⟩ := look_ok s1 e
    cases e2 : inD neg a d with
    | none => simp only [e2] at h1; exact h1.elim
    | some z =>
      cases z with
      | bl b =>
        simp only [e2] at h1
        exact ⟨u, hu, in_b e2 (rx.back fun a f => f.elim) r (h1 ρ1 H1 Ext.refl s1 _ (.bl b))⟩
      | _ => simp only [e2] at h1; exact h1.elim
theorem pe_mInB {neg : Bool} {op : CmpOp} {a : Expr} {x : Str} {p : Pos} {ma : M} {i : Nat} (ho : OpR X (compareOp op) (fun x y H Q => rInP g.K neg x y H Q ∨ rInDc neg x y H Q)) (ha : PE X a (tM g ER ma)) (hx : PE X (.Name x p) (tVar i)) (hm : behindInMarks op (.Name x p) = false) : PE X (.Compare a [op] [.Name x p] pos) (tM g ER (mInB neg ma i)) :=
  PEi (pe_cmpR ho ha hx hm) fun _ _ _ h => tM_inB h
theorem pt_mInB {neg : Bool} {op : CmpOp} {a : Expr} {x : Str} {p : Pos} {ma : M} {i : Nat} (ho : OpR X (compareOp op) (fun x y H Q => rInP g.K neg x y H Q ∨ rInDc neg x y H Q)) (ha : PE X a (tM g ER ma)) (hx : PE X (.Name x p) (tVar i)) (hm : behindInMarks op (.Name x p) = false) : PT X (.Compare a [op] [.Name x p] pos) (tMT g ER (mB (mInB neg ma i))) := by
  refine PTi (pt_cmpR ho ha hx hm) fun σ H Q h => ?_
  obtain ⟨ρ, st, s, h⟩ := tMT_B h
  exact tM_inB ⟨ρ, st, s, h⟩
/-- a name's truth -/
def mTruL (i : Nat) : MT := fun st => match st.look i with
  | some d => match truD d with
    | some b => .ok b st
    | none => .no
  | none => .no
/-- the dict of a cell, keys ints or texts -/
def S.cK (st : S) (i : Nat) : Option (List (Key × D)) := match st.sl[i]? with
  | some (.rf k) => match st.ce[k]? with
    | some (.dK kvs) => some kvs
    | _ => none
  | _ => none
theorem cK_ok {g : G} {ρ : Rh} {σ : L2.St} {H : Hp} {st : S} (s : Sim g ρ σ H st) {i : Nat} {kvs : List (Key × D)} (e : st.cK i = some kvs) : ∃ a xs, σ[i]? = some (some (.ref a)) ∧ H a = some (.dK xs) ∧ xs.length = kvs.length := by
  unfold S.cK at e
  split at e
  · rename_i k hk
    split at e
    · rename_i ks hc
      cases Option.some.inj e
      have lt : i < σ.length := by rw [s.len]; exact (List.getElem?_eq_some_iff.mp hk).1
      obtain ⟨a, e1, e2⟩ := s.slot i _ _ hk (List.getElem?_eq_getElem lt)
      obtain ⟨xs, e3, e4, _⟩ := s.cell k _ a hc e2
      exact ⟨a, xs, by rw [List.getElem?_eq_getElem lt, e1], e3, by have := congrArg List.length e4; simpa using this⟩
    · cases e
  · cases e
def mTruB (i : Nat) : MT := fun st => match st.cK i with
  | some kvs => .ok (!kvs.isEmpty) st
  | none => mTruL i st
theorem pt_mTruB {x : Str} {i : Nat} (hk : X.K = g.K) (hx : PE X (.Name x pos) (tVar i)) (he : ∀ whole, isTrue (.Name x pos) X.env whole = (do let v ← whole; standAt (Expr.Name x pos).pos; holding [v] (truthy v)) := by intro _; rfl) : PT X (.Name x pos) (tMT g ER (mTruB i)) := by
  refine PTi (pt_truth hx he) fun σ H Q h => ?_
  obtain ⟨ρ, st, s, h⟩ := h
  cases e0 : st.cK i with
  | some kvs =>
    simp only [mTruB, e0] at h
    obtain ⟨a, xs, e1, e2, e3⟩ := cK_ok s e0
    exact ⟨.ref a, e1, _, .inr (.inr ⟨xs, e2, by rw [empty_of e3]⟩), h ρ H Ext.refl s⟩
  | none =>
  simp only [mTruB, e0] at h
  cases e : st.look i with
  | none => simp only [mTruL, e] at h; exact h.elim
  | some d =>
    obtain ⟨u, hu, r⟩ := look_ok s e
    cases e2 : truD d with
    | none => simp only [mTruL, e, e2] at h; exact h.elim
    | some b =>
      simp only [mTruL, e, e2] at h
      exact ⟨u, hu, b, by rw [hk]; exact truD_ok r e2, h ρ H Ext.refl s⟩
/-- the cell of a slot -/
def S.cellOf (st : S) (i : Nat) : Option Nat := match st.sl[i]? with
  | some (.rf k) => some k
  | _ => none
theorem cellOf_ok {st : S} {i k : Nat} (e : st.cellOf i = some k) : st.sl[i]? = some (.rf k) := by
  unfold S.cellOf at e
  split at e
  · rename_i j h; cases Option.some.inj e; exact h
  · cases e
def Ce.isL : Ce → Bool
  | .l _ => true
  | _ => false
def S.isL (st : S) (k : Nat) : Bool := match st.ce[k]? with
  | some c => c.isL
  | none => false
theorem isL_ok {st : S} {k : Nat} (h : st.isL k = true) : ∃ ds, st.ce[k]? = some (.l ds) := by
  unfold S.isL at h
  cases e : st.ce[k]? with
  | none => (rw [e] at h; cases h)
  | some c =>
    rw [e] at h
    cases c with
    | l ds => exact ⟨ds, rfl⟩
    | _ => cases h
theorem cell_l {ρ : Rh} {σ : L2.St} {H : Hp} {st : S} {k : Nat} {a : Addr} (s : Sim g ρ σ H st) (h : st.isL k = true) (ha : ρ.ad[k]? = some a) : ∃ ds xs, st.ce[k]? = some (.l ds) ∧ H a = some (.lst xs) ∧ RpA g (Vol ρ st) H xs ds := by
  obtain ⟨ds, e⟩ := isL_ok h
  obtain ⟨xs, q1, q2⟩ := s.cell k _ a e ha
  exact ⟨ds, xs, e, q1, q2⟩
def mApp (i : Nat) (m : M) : M := fun st => match st.cellOf i with
  | some k => if st.isL k = true then bindO (m st) fun d st1 => match st1.ce[k]? with
    | some (.l ds) => if ds.length ≤ lim then .ok .non (st1.setC k (.l (ds ++ [d]))) else .no
    | _ => .no
    else .no
  | none => .no
theorem pe_mApp {o e : Expr} {i : Nat} {m : M} {apos cpos : Pos} (hk : X.K = g.K) (ho : PE X o (tVar i)) (he : PE X e (tM g ER m))
    (hbase : attributeBase o "append" X.env (eval o X.env) = eval o X.env := by rfl) (hfew : ((backTo cpos (starEach [e] X.env)).all (fun x => !x.1) && (backToKw cpos (keywordEach [] X.env)).all (fun x => x.1.isSome)
      && decide ([e].length + ([] : List Keyword).length + (if ([] : List Keyword).isEmpty then 0 else 1) < 30)) = true := by rfl)
    (hline : (apos.endLine == cpos.line) = true := by rfl) (hs : starEach [e] X.env = [(false, eval e X.env)] := by rfl) (hplain : (backTo cpos (starEach ([] : List Expr) X.env)).any (·.1) = false := by rfl) :
    PE X (.Call (.Attribute o "append" apos) [e] [] cpos) (tM g ER (mApp i m)) := by
  refine PEi (pe_bm PySem.F.plainAttrs_list PySem.F.slot_list_append PySem.F.type_list_append mt_append ho (pa_cons he pa_nil hs) hbase hfew hline hs hplain) fun σ H Q h => ?_
  obtain ⟨ρ, st, s, h⟩ := h
  cases e1 : st.cellOf i with
  | none => simp only [mApp, e1] at h; exact h.elim
  | some k =>
    by_cases e2 : st.isL k = true
    case neg => simp only [mApp, e1, if_neg e2] at h; exact h.elim
    simp only [mApp, e1, if_pos e2] at h
    obtain ⟨a, hu, ha⟩ := s.rf (cellOf_ok e1)
    obtain ⟨ds0, xs0, _, q1, _⟩ := cell_l s e2 ha
    refine ⟨_, hu, .inl ⟨rfl, xs0, SqL.of q1⟩, ρ, st, s, (OutC.bind h).mono fun d st1 ρ1 H1 x1 h1 s1 v rv => ?_⟩
    have ha1 := x1.pre k a ha
    cases e3 : st1.ce[k]? with
    | none => simp only [e3] at h1; exact h1.elim
    | some c =>
      cases c with
      | l ds =>
        simp only [e3] at h1
        by_cases hz : ds.length ≤ lim
        case neg => rw [if_neg hz] at h1; exact h1.elim
        rw [if_pos hz] at h1
        obtain ⟨xs, q2, q3⟩ := s1.cell k _ a e3 ha1
        refine ⟨a, xs, v, rfl, rfl, q2, Nat.lt_of_le_of_lt (Nat.le_trans (Nat.le_of_eq q3.1) hz) (by decide), ?_⟩
        have xe := Ext.setC (c := .l (ds ++ [d])) (o := .lst (xs ++ [v])) s1 e3 rfl ha1
        exact h1 ρ1 _ xe (s1.setC e3 rfl ha1 rfl ⟨xs ++ [v], upd_same, (q3.append (RpA.cons rv RpA.nil)).ext xe.keep⟩) _ .non
      | _ => simp only [e3] at h1; exact h1.elim
def mPop (i : Nat) : M := fun st => match st.cellOf i with
  | some k => match st.ce[k]? with
    | some (.l ds) => match ds[ds.length - 1]? with
      | some d => .ok d (st.setC k (.l ds.dropLast))
      | none => .no
    | _ => .no
  | none => .no
theorem RpA.dropLast {A : Addr → Prop} {H : Hp} {xs : List V} {ds : List D} (h : RpA g A H xs ds) : RpA g A H xs.dropLast ds.dropLast := by
  rw [List.dropLast_eq_take, List.dropLast_eq_take, h.1]
  exact h.take _
theorem pe_mPop {o : Expr} {i : Nat} {apos cpos : Pos} (hk : X.K = g.K) (ho : PE X o (tVar i)) (hbase : attributeBase o "pop" X.env (eval o X.env) = eval o X.env := by rfl) (hline : (apos.endLine == cpos.line) = true := by rfl) :
    PE X (.Call (.Attribute o "pop" apos) [] [] cpos) (tM g ER (mPop i)) := by
  refine PEi (pe_bm0 PySem.F.plainAttrs_list PySem.F.slot_list_pop PySem.F.type_list_pop mt_pop ho hbase hline) fun σ H Q h => ?_
  obtain ⟨ρ, st, s, h⟩ := h
  cases e1 : st.cellOf i with
  | none => simp only [mPop, e1] at h; exact h.elim
  | some k =>
    obtain ⟨a, hu, ha⟩ := s.rf (cellOf_ok e1)
    cases e3 : st.ce[k]? with
    | none => simp only [mPop, e1, e3] at h; exact h.elim
    | some c =>
      cases c with
      | l ds =>
        cases e4 : ds[ds.length - 1]? with
        | none => simp only [mPop, e1, e3, e4] at h; exact h.elim
        | some d =>
          simp only [mPop, e1, e3, e4] at h
          obtain ⟨xs, q2, q3⟩ := s.cell k _ a e3 ha
          obtain ⟨y, hy, ry⟩ := q3.get e4
          refine ⟨_, hu, .inl ⟨rfl, xs, SqL.of q2⟩, a, xs, y, rfl, rfl, q2, by rw [q3.1]; exact hy, ?_⟩
          have xe := Ext.setC (c := .l ds.dropLast) (o := .lst xs.dropLast) s e3 rfl ha
          exact h ρ _ xe (s.setC e3 rfl ha rfl ⟨_, upd_same, q3.dropLast.ext xe.keep⟩) _ (ry.go xe)
      | _ => simp only [mPop, e1, e3] at h; exact h.elim
/-- x[k] = v, x a dict's cell -/
def mPut (i : Nat) (mk mv : M) : MS := fun st => bindS (mv st) fun z st1 => match st1.cellOf i with
  | some k => bindS (mk st1) fun y st2 => match st2.ce[k]? with
    | some (.dT ds) => match keysD y with
      | some q => if ds.length ≤ lim then .nx (st2.setC k (.dT (putE ds q z))) else .no
      | none => .no
    | some (.dK ds) => match keyD y with
      | some q => if ds.length ≤ lim then .nx (st2.setC k (.dK (putE ds q z))) else .no
      | none => .no
    | _ => .no
  | none => .no
theorem ps_mPut {o ke ve : Expr} {i : Nat} {mk mv : M} {tp : Pos} (hu : X.A.units + 1 < cLine) (ho : PE X o (tVar i)) (hk : PE X ke (tM g ER mk)) (hv : PE X ve (tM g ER mv)) (hs : swapsWith ve (some (.Subscript o ke tp)) pos.line X.env = pure false := by rfl) :
    PS X (.Assign [.Subscript o ke tp] ve pos) (tMS g ER (mPut i mk mv)) := by
  refine PSi (ps_dput hu ho hk hv hs) fun E σ H h => ?_
  obtain ⟨ρ, st, s, h⟩ := h
  refine ⟨ρ, st, s, (OutS.bind h).mono fun z st1 ρ1 H1 _ h1 s1 v rv => ?_⟩
  cases e1 : st1.cellOf i with
  | none => simp only [e1] at h1; exact h1.elim
  | some k =>
    simp only [e1] at h1
    obtain ⟨a, hu, ha⟩ := s1.rf (cellOf_ok e1)
    refine ⟨_, hu, ρ1, st1, s1, (OutS.bind h1).mono fun y st2 ρ2 H2 x2 h2 s2 u ru => ?_⟩
    have ha2 := x2.pre k a ha
    have rv2 := rv.go x2
    have lz : ∀ {n m : Nat}, n = m → m ≤ lim → n < sizeLine := fun {n m} e h => Nat.lt_of_le_of_lt (Nat.le_trans (Nat.le_of_eq e) h) (by decide)
    cases e3 : st2.ce[k]? with
    | none => simp only [e3] at h2; exact h2.elim
    | some c =>
      cases c with
      | dT ds =>
        cases e4 : keysD y with
        | none => simp only [e3, e4] at h2; exact h2.elim
        | some q =>
          simp only [e3, e4] at h2
          by_cases hz : ds.length ≤ lim
          case neg => rw [if_neg hz] at h2; exact h2.elim
          rw [if_pos hz] at h2
          obtain ⟨xs, q2, qk, q3⟩ := s2.cell k _ a e3 ha2
          have hl : xs.length = ds.length := by have := congrArg List.length qk; simpa using this
          refine ⟨a, _, rfl, dkT.put g _ H2 u v y q xs a ru e4 q2 (lz hl hz), ?_⟩
          obtain ⟨p1, p2⟩ := putE_ok (k := q) qk q3 rv2
          have xe := Ext.setC (c := .dT (putE ds q z)) (o := .dT (putK xs q v)) s2 e3 rfl ha2
          exact h2 ρ2 σ _ xe (s2.setC e3 rfl ha2 rfl ⟨_, upd_same, p1, p2.ext xe.keep⟩)
      | dK ds =>
        cases e4 : keyD y with
        | none => simp only [e3, e4] at h2; exact h2.elim
        | some q =>
          simp only [e3, e4] at h2
          by_cases hz : ds.length ≤ lim
          case neg => rw [if_neg hz] at h2; exact h2.elim
          rw [if_pos hz] at h2
          obtain ⟨xs, q2, qk, q3⟩ := s2.cell k _ a e3 ha2
          have hl : xs.length = ds.length := by have := congrArg List.length qk; simpa using this
          refine ⟨a, _, rfl, dkK.put g _ H2 u v y q xs a ru e4 q2 (lz hl hz), ?_⟩
          obtain ⟨p1, p2⟩ := putE_ok (k := q) qk q3 rv2
          have xe := Ext.setC (c := .dK (putE ds q z)) (o := .dK (putK xs q v)) s2 e3 rfl ha2
          exact h2 ρ2 σ _ xe (s2.setC e3 rfl ha2 rfl ⟨_, upd_same, p1, p2.ext xe.keep⟩)
      | _ => simp only [e3] at h2; exact h2.elim
def whileS (t : MT) (body : MS) : Nat → S → SO
  | 0, _ => .no
  | n + 1, st => match t st with
    | .ok true st1 => match body st1 with
      | .nx st2 => whileS t body n st2
      | .ct st2 => whileS t body n st2
      | .bk st2 => .nx st2
      | o => o
    | .ok false st1 => .nx st1
    | .er c vs st1 => .er c vs st1
    | .no => .no
theorem ps_mWhile {c : Expr} {body : List Stmt} {t : MT} {mb : MS} (n : Nat) (hp : PassesOwn (model X.prog X.w) X.A X.env X.xe) (hc : PT X c (tMT g ER t)) (hb : PSs X body (tMS g ER mb)) : PS X (.While c body [] pos) (tMS g ER (whileS t mb n)) := by
  refine PSi (ps_while hp hc hb) fun E σ H h => ?_
  obtain ⟨ρ0, st0, s0, h⟩ := h
  refine ⟨fun m σ' H' => ∃ ρ' st', Ext ρ0 st0 H ρ' st' H' ∧ Sim g ρ' σ' H' st' ∧ OutS g ER ρ' st' H' (whileS t mb m st') E, ⟨n, ρ0, st0, Ext.refl, s0, h⟩, ?_⟩
  rintro m σ1 H1 ⟨ρ1, st1, x1, s1, h1⟩
  refine ⟨ρ1, st1, s1, ?_⟩
  cases m with
  | zero => exact h1.elim
  | succ m =>
    unfold whileS at h1
    cases e1 : t st1 with
    | no => simp only [e1] at h1; exact h1.elim
    | er c vs st2 => simp only [e1] at h1; exact h1
    | ok b st2 =>
      cases b with
      | false =>
        simp only [e1] at h1
        intro ρ2 H2 x2 s2
        rw [if_neg (by decide)]
        exact h1 ρ2 σ1 H2 x2 s2
      | true =>
        simp only [e1] at h1
        intro ρ2 H2 x2 s2
        rw [if_pos rfl]
        refine ⟨fun σ' H' => ∃ ρ' st', Ext ρ0 st0 H ρ' st' H' ∧ Sim g ρ' σ' H' st' ∧ OutS g ER ρ' st' H' (whileS t mb m st') E, fun σ' H' ⟨ρ', st', a, b, c⟩ => ⟨m, by omega, ρ', st', a, b, c⟩, ρ2, st2, s2, ?_⟩
        cases e2 : mb st2 with
        | nx st4 => simp only [e2] at h1; exact fun ρ4 σ4 H4 x4 s4 => ⟨ρ4, st4, (x1.trans x2).trans x4, s4, OutS.later h1 (x2.trans x4)⟩
        | ct st4 => simp only [e2] at h1; exact fun ρ4 σ4 H4 x4 s4 => ⟨ρ4, st4, (x1.trans x2).trans x4, s4, OutS.later h1 (x2.trans x4)⟩
        | bk st4 => simp only [e2] at h1; exact fun ρ4 σ4 H4 x4 s4 => h1 ρ4 σ4 H4 (x2.trans x4) s4
        | rt d st4 => simp only [e2] at h1; exact fun ρ4 σ4 H4 v x4 s4 r => h1 ρ4 σ4 H4 v (x2.trans x4) s4 r
        | er c vs st4 => simp only [e2] at h1; exact fun ρ4 H4 x4 => h1 ρ4 H4 (x2.trans x4)
        | no => simp only [e2] at h1; exact h1.elim
end
end RE
set_option maxHeartbeats 2000000
namespace RE
open PySem PySem.Spec PyProof.Rows L2
abbrev MR := S → O (List Sl)
def ArgsOk (g : G) (ρ : Rh) (st : S) (H : Hp) (vs : List V) (as : List Sl) : Prop := vs.length = as.length ∧ ∀ (i : Nat) v s, vs[i]? = some v → as[i]? = some s → SlOk g (Vol ρ st) ρ H (some v) s
section
variable {g : G} {ER : EK} {ρ ρ' : Rh} {st st' : S} {H H' : Hp} {σ : L2.St}
def tMR (g : G) (ER : EK) (m : MR) : TA := fun σ H Q => ∃ ρ st, Sim g ρ σ H st ∧ OutC ER ρ st H (m st) fun as st' ρ' H' => Sim g ρ' σ H' st' → ∀ vs, ArgsOk g ρ' st' H' vs as → Q vs H'
theorem ArgsOk.nil : ArgsOk g ρ st H [] [] := ⟨rfl, fun i v s h => by simp at h⟩
theorem ArgsOk.cons {v : V} {vs : List V} {s : Sl} {as : List Sl} (h : SlOk g (Vol ρ st) ρ H (some v) s) (t : ArgsOk g ρ st H vs as) : ArgsOk g ρ st H (v :: vs) (s :: as) :=
  ⟨by simp [t.1], fun i x y hx hy => by
    cases i with
    | zero =>
      have e1 : v = x := by simpa using hx
      have e2 : s = y := by simpa using hy
      subst e1; subst e2; exact h
    | succ i => exact t.2 i x y (by simpa using hx) (by simpa using hy)⟩
theorem ArgsOk.data {vs : List V} {ds : List D} (r : RpA g (Vol ρ st) H vs ds) : ArgsOk g ρ st H vs (ds.map .d) :=
  ⟨by rw [List.length_map]; exact r.1, fun i v s h1 h2 => by
    rw [List.getElem?_map] at h2
    obtain ⟨d, hd, rfl⟩ := Option.map_eq_some_iff.mp h2
    exact ⟨v, rfl, r.2 i v d h1 hd⟩⟩
theorem ArgsOk.append {vs ws : List V} {as bs : List Sl} (h : ArgsOk g ρ st H vs as) (t : ArgsOk g ρ st H ws bs) : ArgsOk g ρ st H (vs ++ ws) (as ++ bs) :=
  ⟨by rw [List.length_append, List.length_append, h.1, t.1], fun i v s h1 h2 => by
    by_cases hi : i < vs.length
    · rw [List.getElem?_append_left hi] at h1
      rw [List.getElem?_append_left (by rw [← h.1]; exact hi)] at h2
      exact h.2 i v s h1 h2
    · rw [List.getElem?_append_right (by omega)] at h1
      rw [List.getElem?_append_right (by rw [← h.1]; omega), ← h.1] at h2
      exact t.2 _ v s h1 h2⟩
def rNil : MR := fun st => .ok [] st
def rDat (m : M) (ms : MR) : MR := fun st => bindO (m st) fun d st1 => bindO (ms st1) fun as st2 => .ok (.d d :: as) st2
/-- a name whose cell is handed on, or its datum -/
def rRef (i : Nat) (ms : MR) : MR := fun st => match st.sl[i]? with
  | some .no => .no
  | some s => bindO (ms st) fun as st2 => .ok (s :: as) st2
  | none => .no
theorem pa_rNil {X : Cx} : PA X [] (tMR g ER rNil) := PAi pa_nil fun σ H Q h => by
  obtain ⟨ρ, st, s, h⟩ := h
  exact h ρ H Ext.refl s [] ArgsOk.nil
theorem pa_rDat {X : Cx} {e : Expr} {es : List Expr} {m : M} {ms : MR} (ha : PE X e (tM g ER m)) (hr : PA X es (tMR g ER ms)) (hs : starEach (e :: es) X.env = (false, eval e X.env) :: starEach es X.env := by rfl) : PA X (e :: es) (tMR g ER (rDat m ms)) := by
  refine PAi (pa_cons ha hr hs) fun σ H Q h => ?_
  obtain ⟨ρ, st, s, h⟩ := h
  refine ⟨ρ, st, s, (OutC.bind h).mono fun d st1 ρ1 H1 _ h1 s1 x rx => ?_⟩
  refine ⟨ρ1, st1, s1, (OutC.bind h1).mono fun ds st2 ρ2 H2 e2 h2 s2 xs rs => ?_⟩
  exact h2 ρ2 H2 Ext.refl s2 (x :: xs) (ArgsOk.cons ⟨x, rfl, rx.go e2⟩ rs)
theorem pa_rRef {X : Cx} {x : Str} {p : Pos} {i : Nat} {es : List Expr} {ms : MR} (hx : PE X (.Name x p) (tVar i)) (hr : PA X es (tMR g ER ms)) (hs : starEach (.Name x p :: es) X.env = (false, eval (.Name x p) X.env) :: starEach es X.env := by rfl) : PA X (.Name x p :: es) (tMR g ER (rRef i ms)) := by
  refine PAi (pa_cons hx hr hs) fun σ H Q h => ?_
  obtain ⟨ρ, st, s, h⟩ := h
  cases e : st.sl[i]? with
  | none => simp only [rRef, e] at h; exact h.elim
  | some sl =>
    obtain ⟨hi, _⟩ := List.getElem?_eq_some_iff.mp e
    have hs : i < σ.length := by rw [s.len]; exact hi
    have q := s.slot i _ _ e (List.getElem?_eq_getElem hs)
    have main : ∀ v, σ[i]? = some (some v) → SlOk g (Vol ρ st) ρ H (some v) sl → OutC ER ρ st H (bindO (ms st) fun as st2 => .ok (sl :: as) st2) (fun as st' ρ' H' => Sim g ρ' σ H' st' → ∀ vs, ArgsOk g ρ' st' H' vs as → Q vs H') → ∃ v, σ[i]? = some (some v) ∧ tMR g ER ms σ H fun vs H1 => Q (v :: vs) H1 := fun v hv ok h => by
      refine ⟨v, hv, ρ, st, s, (OutC.bind h).mono fun as st2 ρ2 H2 e2 h2 s2 xs rs => ?_⟩
      exact h2 ρ2 H2 Ext.refl s2 (v :: xs) (ArgsOk.cons (ok.ext e2.keep e2.pre) rs)
    cases sl with
    | no => simp only [rRef, e] at h; exact h.elim
    | d y =>
      simp only [rRef, e] at h
      obtain ⟨u, hu, r⟩ := q
      exact main u (by rw [List.getElem?_eq_getElem hs, hu]) ⟨u, rfl, r⟩ h
    | rf k =>
      simp only [rRef, e] at h
      obtain ⟨a, hu, r⟩ := q
      exact main (.ref a) (by rw [List.getElem?_eq_getElem hs, hu]) ⟨a, rfl, r⟩ h
end
def Ce.flat : Ce → Bool
  | .rK _ => false
  | .rT _ => false
  | .o _ _ => false
  | _ => true
theorem CeOk.flat {g : G} {A : Addr → Prop} {ad ad' : List Addr} {H : Hp} {a : Addr} {c : Ce} (f : c.flat = true) (h : CeOk g A ad H a c) : CeOk g A ad' H a c := by
  cases c with
  | rK _ => cases f
  | rT _ => cases f
  | o _ _ => cases f
  | _ => exact h
/-- the one cell that is handed on -/
def refOf : List Sl → Option Nat
  | [] => none
  | .rf k :: _ => some k
  | _ :: as => refOf as
def okRef (k : Nat) : List Sl → Bool
  | [] => true
  | .rf j :: as => decide (j = k) && okRef k as
  | _ :: as => okRef k as
def toZero : List Sl → List Sl
  | [] => []
  | .rf _ :: as => .rf 0 :: toZero as
  | s :: as => s :: toZero as
theorem toZero_get (k : Nat) : ∀ (as : List Sl) (i : Nat) (s : Sl), okRef k as = true → (toZero as)[i]? = some s → (s = .rf 0 ∧ as[i]? = some (.rf k)) ∨ ((∀ j, s ≠ .rf j) ∧ as[i]? = some s)
  | [], i, s, _, h => by simp [toZero] at h
  | .rf j :: as, 0, s, h, e => by
    cases Option.some.inj (show some (Sl.rf 0) = some s from e)
    have h' : (decide (j = k) && okRef k as) = true := h
    have : j = k := of_decide_eq_true (Bool.and_eq_true_iff.mp h').1
    exact .inl ⟨rfl, by rw [this]; rfl⟩
  | .no :: as, 0, s, h, e => by
    cases Option.some.inj (show some Sl.no = some s from e)
    exact .inr ⟨fun _ z => (nomatch z), rfl⟩
  | .d x :: as, 0, s, h, e => by
    cases Option.some.inj (show some (Sl.d x) = some s from e)
    exact .inr ⟨fun _ z => (nomatch z), rfl⟩
  | .rf j :: as, i + 1, s, h, e => by
    have h' : (decide (j = k) && okRef k as) = true := h
    exact toZero_get k as i s (Bool.and_eq_true_iff.mp h').2 e
  | .no :: as, i + 1, s, h, e => toZero_get k as i s h e
  | .d x :: as, i + 1, s, h, e => toZero_get k as i s h e
theorem toZero_len : ∀ as : List Sl, (toZero as).length = as.length
  | [] => rfl
  | .rf j :: as => by show (toZero as).length + 1 = as.length + 1; rw [toZero_len]
  | .no :: as => by show (toZero as).length + 1 = as.length + 1; rw [toZero_len]
  | .d x :: as => by show (toZero as).length + 1 = as.length + 1; rw [toZero_len]
/-- the caller's state behind the call -/
def S.gets (st : S) (k : Nat) (ce : List Ce) : Option S := match ce[0]? with
  | some c => if (c.alive && c.flat) = true then some (st.setC k c) else none
  | none => none
def runR (ms : MS) (n : Nat) (as : List Sl) (st : S) : O D := match refOf as with
  | none => .no
  | some k => match st.ce[k]? with
    | none => .no
    | some c => if ((c.alive && c.flat) && okRef k as) = true then (match ms (S.start (toZero as) n [c]) with
      | .rt d st' => (match st.gets k st'.ce with
        | some st2 => .ok d st2
        | none => .no)
      | .nx st' => (match st.gets k st'.ce with
        | some st2 => .ok .non st2
        | none => .no)
      | .er e vs st' => (match st.gets k st'.ce with
        | some st2 => .er e vs st2
        | none => .no)
      | _ => .no) else .no
def mCallR (ms : MS) (n : Nat) (dfl : List D) (mr : MR) : M := fun st => bindO (mr st) fun as st1 => runR ms n (as ++ dfl.map .d) st1
section
variable {g : G} {ρ ρ' : Rh} {σ : L2.St} {H H' : Hp} {st st' st0 : S} {k : Nat} {c : Ce} {a : Addr}
/-- the callee's frame -/
theorem sim_argsR {vs : List V} {as : List Sl} (s : Sim g ρ σ H st) (r : ArgsOk g ρ st H vs as) (hc : st.ce[k]? = some c) (al : c.alive = true) (fl : c.flat = true) (hk : okRef k as = true) (ha : ρ.ad[k]? = some a) :
    Sim g ⟨[a], fun b => Vol ρ st b ∧ b ≠ a⟩ (vs.map some) H ⟨toZero as, [c]⟩ := by
  have va : Vol ρ st a := .inr ⟨k, c, hc, al, ha⟩
  have one : ∀ {j : Nat} {c' : Ce}, [c][j]? = some c' → j = 0 ∧ c' = c := fun {j c'} h => by
    cases j with
    | zero => exact ⟨rfl, (Option.some.inj h).symm⟩
    | succ j => simp at h
  have oneA : ∀ {b : Addr}, [a][0]? = some b → b = a := fun h => (Option.some.inj h).symm
  have sub : ∀ b, Vol ⟨[a], fun b => Vol ρ st b ∧ b ≠ a⟩ ⟨toZero as, [c]⟩ b → Vol ρ st b := fun b v => by
    rcases v with v | ⟨j, c', h1, h2, h3⟩
    · exact v.1
    · obtain ⟨rfl, rfl⟩ := one h1
      rw [oneA h3]; exact va
  have kp : ∀ b o, H b = some o → ¬ Vol ρ st b → H b = some o ∧ ¬ Vol ⟨[a], fun b => Vol ρ st b ∧ b ≠ a⟩ ⟨toZero as, [c]⟩ b := fun b o h n => ⟨h, fun v => n (sub b v)⟩
  refine ⟨⟨fun b h => s.volT h.1, rfl, fun j c' b h1 h2 => ?_, fun i j c1 c2 b h1 h2 _ _ _ _ => ?_, fun j c1 b h1 _ h2 v => ?_⟩, ?_, fun i sl v h1 h2 => ?_⟩
  · obtain ⟨rfl, rfl⟩ := one h1
    rw [oneA h2]
    exact (CeOk.flat fl (s.cell k _ a hc ha)).ext rfl kp
  · rw [(one h1).1, (one h2).1]
  · obtain ⟨rfl, rfl⟩ := one h1
    exact v.2 (oneA h2)
  · show (vs.map some).length = (toZero as).length
    rw [List.length_map, toZero_len, r.1]
  · have h1 : (toZero as)[i]? = some sl := h1
    rw [List.getElem?_map] at h2
    obtain ⟨u, hu, rfl⟩ := Option.map_eq_some_iff.mp h2
    rcases toZero_get k as i sl hk h1 with ⟨rfl, e⟩ | ⟨n, e⟩
    · obtain ⟨b, eb, q⟩ := r.2 i u _ hu e
      rw [ha] at q
      cases Option.some.inj q
      exact ⟨a, eb, rfl⟩
    · have q := r.2 i u _ hu e
      cases sl with
      | no => trivial
      | d x => obtain ⟨w, ew, rw'⟩ := q; exact ⟨w, ew, rw'.ext kp⟩
      | rf j => exact absurd rfl (n j)
theorem gets_ok {ce : List Ce} {st2 : S} (h : st.gets k ce = some st2) : ∃ c', ce[0]? = some c' ∧ (c'.alive = true ∧ c'.flat = true) ∧ st2 = st.setC k c' := by
  unfold S.gets at h
  cases e : ce[0]? with
  | none => (rw [e] at h; cases h)
  | some c' =>
    rw [e] at h
    by_cases q : (c'.alive && c'.flat) = true
    · have h : (if (c'.alive && c'.flat) = true then some (st.setC k c') else none) = some st2 := h
      rw [if_pos q] at h; exact ⟨c', rfl, Bool.and_eq_true_iff.mp q, (Option.some.inj h).symm⟩
    · have h : (if (c'.alive && c'.flat) = true then some (st.setC k c') else none) = some st2 := h
      rw [if_neg q] at h; cases h
/-- behind it -/
theorem back_callR {as : List Sl} {c' : Ce} (s : Sim g ρ σ H st) (hc : st.ce[k]? = some c) (al : c.alive = true) (ha : ρ.ad[k]? = some a)
    (e : Ext ⟨[a], fun b => Vol ρ st b ∧ b ≠ a⟩ ⟨as, [c]⟩ H ρ' st' H') (cs : Cells g ρ' H' st') (h0 : st'.ce[0]? = some c') (alf : c'.alive = true ∧ c'.flat = true) :
    Ext ρ st H ρ (st.setC k c') H' ∧ Sim g ρ σ H' (st.setC k c') ∧ ∀ b, Vol ρ (st.setC k c') b → Vol ρ' st' b := by
  obtain ⟨al', fl'⟩ := alf
  have va : Vol ρ st a := .inr ⟨k, c, hc, al, ha⟩
  have one : ∀ {j : Nat} {c' : Ce}, [c][j]? = some c' → j = 0 ∧ c' = c := fun {j c'} h => by
    cases j with
    | zero => exact ⟨rfl, (Option.some.inj h).symm⟩
    | succ j => simp at h
  have nv : ∀ b, ¬ Vol ρ st b → ¬ Vol ⟨[a], fun b => Vol ρ st b ∧ b ≠ a⟩ ⟨as, [c]⟩ b := fun b n v => by
    rcases v with v | ⟨j, c1, h1, h2, h3⟩
    · exact n v.1
    · obtain ⟨rfl, rfl⟩ := one h1
      cases (Option.some.inj (show some a = some b from h3))
      exact n va
  have ha' : ρ'.ad[0]? = some a := e.pre 0 a rfl
  have va' : Vol ρ' st' a := .inr ⟨0, c', h0, al', ha'⟩
  have sub : ∀ b, Vol ρ (st.setC k c') b → Vol ρ st b := fun b v => vol_setC ⟨c, hc, al⟩ v
  have up : ∀ b, Vol ρ st b → Vol ρ' st' b := fun b v => by
    by_cases z : b = a
    · rw [z]; exact va'
    · left; rw [e.same]; exact ⟨v, z⟩
  have k1 : ∀ b o, H b = some o → ¬ Vol ρ st b → H' b = some o ∧ ¬ Vol ρ (st.setC k c') b := fun b o h n => ⟨(e.keep b o h (nv b n)).1, fun v => n (sub b v)⟩
  have un : ∀ b, Vol ρ st b → b ≠ a → H' b = H b := fun b v z => e.un b ⟨v, z⟩
  refine ⟨⟨k1, fun _ _ h => h, rfl, fun b h => un b (.inl h) fun z => s.out k c a hc al ha (by rw [← z]; exact h), fun b v => .inl (sub b v), e.mono⟩, ⟨⟨fun b h => ?_, ?_, fun j cj b h1 h2 => ?_, ?_, ?_⟩, s.len, fun i sl v h1 h2 => (s.slot i sl v h1 h2).ext k1 fun _ _ h => h⟩, fun b v => up b (sub b v)⟩
  · obtain ⟨o, ho, nt⟩ := s.uok b h
    exact ⟨o, by rw [un b (.inl h) fun z => s.out k c a hc al ha (by rw [← z]; exact h)]; exact ho, nt⟩
  · show ρ.ad.length = (st.ce.set k c').length
    rw [List.length_set]; exact s.clen
  · have h1 : (st.ce.set k c')[j]? = some cj := h1
    rw [List.getElem?_set] at h1
    by_cases z : k = j
    · rw [if_pos z] at h1
      split at h1
      · cases Option.some.inj h1
        rw [← z, ha] at h2
        cases Option.some.inj h2
        exact (CeOk.flat fl' (cs.cell 0 c' a h0 ha')).ext rfl fun b o h n => ⟨h, fun v => n (up b (sub b v))⟩
      · cases h1
    · rw [if_neg z] at h1
      by_cases q : cj.alive = true
      · have vb : Vol ρ st b := .inr ⟨j, cj, h1, q, h2⟩
        refine (s.cell j cj b h1 h2).ext (un b vb fun y => z ?_) k1
        exact s.inj k j c cj b hc h1 al q (by rw [y]; exact ha) h2
      · cases cj <;> first | trivial | exact absurd rfl q
  · intro i j c1 c2 b h1 h2 a1 a2 e1 e2
    have old : ∀ (m : Nat) (c3 : Ce), (st.ce.set k c')[m]? = some c3 → c3.alive = true → ∃ c4, st.ce[m]? = some c4 ∧ c4.alive = true := fun m c3 q q' => by
      rw [List.getElem?_set] at q
      by_cases e : k = m
      · exact ⟨c, by rw [← e]; exact hc, al⟩
      · rw [if_neg e] at q; exact ⟨c3, q, q'⟩
    obtain ⟨c3, q1, q2⟩ := old i c1 h1 a1
    obtain ⟨c4, q3, q4⟩ := old j c2 h2 a2
    exact s.inj i j c3 c4 b q1 q3 q2 q4 e1 e2
  · intro j c1 b h1 a1 e1 v
    have h1 : (st.ce.set k c')[j]? = some c1 := h1
    rw [List.getElem?_set] at h1
    by_cases z : k = j
    · exact s.out j c b (by rw [← z]; exact hc) al e1 v
    · rw [if_neg z] at h1; exact s.out j c1 b h1 a1 e1 v
end
section
variable {X : Cx} {g : G} {ER : EK} {CX : CXT} {k n np : Nat} {f : Addr} {fd : FuncData} {ps : List Str} {ms : MS} {dfl : List D} {dvs : List V} {ds : List Value} {E : XK} {x : Str} {p pos : Pos} {e : Expr} {es : List Expr} {mr : MR}
theorem call_readR (hdf : ∀ A H, RpA g A H dvs dfl) (hE : ∀ c vs ρ st H cls d, ER c vs ρ st H → Cells g ρ H st → ErrIs g (Vol ρ st) H c vs cls d → E cls d H)
    {ρ : Rh} {σ : L2.St} {st : S} {H : Hp} {vs : List V} {as : List Sl} {Q : VK} (s : Sim g ρ σ H st) (r : ArgsOk g ρ st H vs as) (hl : (vs ++ dvs).length = np)
    (h : OutC ER ρ st H (runR ms n (as ++ dfl.map .d) st) fun d st' ρ' H' => Sim g ρ' σ H' st' → ∀ v, Rp g (Vol ρ' st') H' v d → Q v H') : spF g np n ms (vs ++ dvs) H Q E := by
  have rr := r.append (ArgsOk.data (hdf (Vol ρ st) H))
  generalize hb : as ++ dfl.map Sl.d = bs at rr h
  unfold runR at h
  cases e1 : refOf bs with
  | none => simp only [e1] at h; exact h.elim
  | some k =>
  simp only [e1] at h
  cases e2 : st.ce[k]? with
  | none => simp only [e2] at h; exact h.elim
  | some c =>
  simp only [e2] at h
  by_cases e3 : ((c.alive && c.flat) && okRef k bs) = true
  case neg => rw [if_neg e3] at h; exact h.elim
  rw [if_pos e3] at h
  obtain ⟨alf, okk⟩ := Bool.and_eq_true_iff.mp e3
  obtain ⟨al, fl⟩ := Bool.and_eq_true_iff.mp alf
  obtain ⟨hk, _⟩ := List.getElem?_eq_some_iff.mp e2
  have hka : k < ρ.ad.length := by rw [s.clen]; exact hk
  have ha : ρ.ad[k]? = some ρ.ad[k] := List.getElem?_eq_getElem hka
  have sa := sim_argsR s rr e2 al fl okk ha
  refine ⟨hl, ⟨[ρ.ad[k]], fun b => Vol ρ st b ∧ b ≠ ρ.ad[k]⟩, toZero bs, [c], by rw [toZero_len, ← rr.1]; exact hl, sa, ?_⟩
  cases eo : ms (S.start (toZero bs) n [c]) with
  | nx st' =>
    simp only [eo] at h
    cases eg : st.gets k st'.ce with
    | none => simp only [eg] at h; exact h.elim
    | some st2 =>
      simp only [eg] at h
      obtain ⟨c', h0, al', rfl⟩ := gets_ok eg
      intro ρ' H' x cc
      obtain ⟨b1, b2, b3⟩ := back_callR s e2 al ha x cc h0 al'
      exact h ρ H' b1 b2 .non .non
  | rt d st' =>
    simp only [eo] at h
    cases eg : st.gets k st'.ce with
    | none => simp only [eg] at h; exact h.elim
    | some st2 =>
      simp only [eg] at h
      obtain ⟨c', h0, al', rfl⟩ := gets_ok eg
      intro ρ' H' v x cc r'
      obtain ⟨b1, b2, b3⟩ := back_callR s e2 al ha x cc h0 al'
      exact h ρ H' b1 b2 v (r'.back b3)
  | bk st' => simp only [eo] at h; exact h.elim
  | ct st' => simp only [eo] at h; exact h.elim
  | no => simp only [eo] at h; exact h.elim
  | er cl vs' st' =>
    simp only [eo] at h
    cases eg : st.gets k st'.ce with
    | none => simp only [eg] at h; exact h.elim
    | some st2 =>
      simp only [eg] at h
      obtain ⟨c', h0, al', rfl⟩ := gets_ok eg
      intro ρ' H' x cls d cc ei
      obtain ⟨b1, b2, b3⟩ := back_callR s e2 al ha x cc h0 al'
      refine hE cl vs' ρ _ H' cls d (h ρ H' b1) b2.toCells ?_
      obtain ⟨q1, q2⟩ := ei
      exact ⟨q1, q2.imp id fun ⟨dd, nm, y, v, z1, z2, z3, z4, z5, z6⟩ => ⟨dd, nm, y, v, z1, z2, z3, z4, z5.back b3, fun q => z6 (b3 _ q)⟩⟩
theorem pe_mCallR (F : FnOk X.prog X.w X.K X.mg X.base CX k f fd ps (spF g np n ms)) (hr : Room k X.A) (hg : Gl X x) (hm : X.mg x = some (.ref f)) (hk : PySem.W.keepIn X.K (.ref f) = true) (hb : Binds X.K fd ps ds) (hd : Vals dvs ds) (hx : Passes CX X E)
    (hdf : ∀ A H, RpA g A H dvs dfl) (hE : ∀ c vs ρ st H cls d, ER c vs ρ st H → Cells g ρ H st → ErrIs g (Vol ρ st) H c vs cls d → E cls d H) (ha : PA X (e :: es) (tMR g ER mr)) (hlen : ∀ st xs st', mr st = .ok xs st' → xs.length + dfl.length = np) (hdb : (x == ("__debug__" : Str)) = false := by decide) (he : starEach (e :: es) X.env = (false, eval e X.env) :: starEach es X.env := by rfl) (hpl : (backTo pos (starEach es X.env)).any (·.1) = false := by rfl) :
    PE X (.Call (.Name x p) (e :: es) [] pos) (tM g ER (mCallR ms n dfl mr)) := by
  refine PEi (pe_call F hr hg hm hk hb hd hx ha hdb he hpl) fun σ H Q h => ?_
  obtain ⟨ρ, st, s, h⟩ := h
  refine ⟨ρ, st, s, ?_⟩
  have hh := OutC.bind h
  cases ea : mr st with
  | no => rw [ea] at hh; exact hh
  | er c vs st' => rw [ea] at hh; exact hh
  | ok xs st1 =>
    rw [ea] at hh
    intro ρ1 H1 x1 s1 vs rs
    refine call_readR hdf hE s1 rs ?_ (hh ρ1 H1 x1)
    have h1 := hlen st xs st1 ea
    have h2 := (hdf (Vol ρ1 st1) H1).1
    rw [List.length_append, rs.1, h2]
    exact h1
end
end RE
set_option maxHeartbeats 2000000
namespace RE
open PySem PySem.Spec PyProof.Rows L2
theorem passT {X : Cx} {E : XK} (tk : Takes X (fun cls d _ H => E cls d H)) : Passes (L2.CX X.prog X.w) X E := fun _ _ _ _ e s' I c => tk e s' (XE.of_call I (fun _ _ _ h => h) c)
theorem passF {X : Cx} : Passes (L2.CX X.prog X.w) X (fun _ _ _ => False) := fun _ _ _ _ _ _ _ c => by
  obtain ⟨_, _, _, _, _, _, _, _, _, _, _, _, h⟩ := c
  exact h.elim
theorem hE_of {g : G} {E : XK} : ∀ c vs ρ st H cls d, erOf g E c vs ρ st H → Cells g ρ H st → ErrIs g (Vol ρ st) H c vs cls d → E cls d H := fun _ _ _ _ _ cls d h a b => h cls d a b
theorem hE_no {g : G} : ∀ c vs ρ st H cls d, erNo c vs ρ st H → Cells g ρ H st → ErrIs g (Vol ρ st) H c vs cls d → (fun _ _ _ => False : XK) cls d H := fun _ _ _ _ _ _ _ h _ _ => h.elim
section
variable {X : Cx} {g : G} {ER : EK} {pos : Pos} {x : Str}
/-- a number of the module -/
theorem pe_mGi {i : Int} (h : ∃ t, X.mg x = some (.int i t)) (hg : Gl X x) (hd : (x == ("__debug__" : Str)) = false := by decide) : PE X (.Name x pos) (tM g ER (mC (.int i))) := by
  obtain ⟨t, h⟩ := h
  exact pe_mC (pe_glob (v := .int i) hg h ⟨t, rfl⟩ hd) fun _ _ => .int i
/-- a tuple of the module's -/
theorem pe_mGt {d : D} (h : ∃ a, X.mg x = some (.ref a) ∧ ∀ A H, Rp g A H (.ref a) d) (hg : Gl X x) (hd : (x == ("__debug__" : Str)) = false := by decide) : PE X (.Name x pos) (tM g ER (mC d)) := by
  obtain ⟨a, h, r⟩ := h
  exact pe_mC (pe_glob (v := .ref a) hg h rfl hd) r
/-- a def -/
theorem pe_mGf {i : Nat} (h : X.mg x = some (.ref (g.F i))) (hg : Gl X x) (hd : (x == ("__debug__" : Str)) = false := by decide) : PE X (.Name x pos) (tM g ER (mC (.fn i))) :=
  pe_mC (pe_glob (v := .ref (g.F i)) hg h rfl hd) fun _ _ => .fn i
end
section
variable {X : Cx} {g : G} {ER : EK} {CX : CXT} {k n np : Nat} {f : Addr} {fd : FuncData} {ps : List Str} {ms : MS} {dfl : List D} {dvs : List V} {ds : List Value} {E : XK} {x : Str} {p pos : Pos} {e : Expr} {es : List Expr} {ma : MA}
/-- f() -/
theorem pe_mCall0 (F : FnOk X.prog X.w X.K X.mg X.base CX k f fd [] (spF g 0 n ms)) (hr : Room k X.A) (hg : Gl X x) (hm : X.mg x = some (.ref f)) (hk : PySem.W.keepIn X.K (.ref f) = true) (hb : Binds X.K fd [] []) (hx : Passes CX X E)
    (hE : ∀ c vs ρ st H cls d, ER c vs ρ st H → Cells g ρ H st → ErrIs g (Vol ρ st) H c vs cls d → E cls d H) (hdb : (x == ("__debug__" : Str)) = false := by decide) :
    PE X (.Call (.Name x p) [] [] pos) (tM g ER (mCall ms n [] mNil)) := by
  refine PEi (pe_call0 F hr hg hm hk hb .nil hx hdb) fun σ H Q h => ?_
  obtain ⟨ρ, st, s, h⟩ := h
  exact call_read (ps := []) (dfl := []) (dvs := []) (fun _ _ => RpA.nil) (fun vs => Iff.rfl) hE s (vs := []) (xs := []) RpA.nil rfl h
/-- a call of what a name holds -/
def mCallV (tab : Nat → Option (MS × Nat)) (i : Nat) (ma : MA) : M := fun st => match st.sl[i]? with
  | some (.d (.fn j)) => match tab j with
    | some (ms, n) => bindO (ma st) fun ds st1 => runD ms n ds st1
    | none => .no
  | _ => .no
theorem pe_mCallV {i : Nat} {tab : Nat → Option (MS × Nat)} (hF : ∀ j ms n, tab j = some (ms, n) → ∃ fd ps, FnOk X.prog X.w X.K X.mg X.base CX k (g.F j) fd ps (spF g np n ms) ∧ PySem.W.keepIn X.K (.ref (g.F j)) = true ∧ Binds X.K fd ps [] ∧ ps.length = np)
    (hr : Room k X.A) (hN : X.N[i]? = some x) (hv : Vis X.env.scope x) (hx : Passes CX X E)
    (hE : ∀ c vs ρ st H cls d, ER c vs ρ st H → Cells g ρ H st → ErrIs g (Vol ρ st) H c vs cls d → E cls d H) (ha : PA X (e :: es) (tMA g ER ma)) (hlen : ∀ st xs st', ma st = .ok xs st' → xs.length = np) (hdb : (x == ("__debug__" : Str)) = false := by decide) (hcd : (x == ("__classdict__" : Str)) = false := by decide) (he : starEach (e :: es) X.env = (false, eval e X.env) :: starEach es X.env := by rfl) (hpl : (backTo pos (starEach es X.env)).any (·.1) = false := by rfl) :
    PE X (.Call (.Name x p) (e :: es) [] pos) (tM g ER (mCallV tab i ma)) := by
  refine ⟨fun pq s σ H Q I h => ?_⟩
  obtain ⟨ρ, st, sm, h⟩ := h
  cases e1 : st.sl[i]? with
  | none => simp only [mCallV, e1] at h; exact h.elim
  | some sl =>
    cases sl with
    | no => simp only [mCallV, e1] at h; exact h.elim
    | rf k => simp only [mCallV, e1] at h; exact h.elim
    | d y =>
      cases y with
      | fn j =>
        cases e2 : tab j with
        | none => simp only [mCallV, e1, e2] at h; exact h.elim
        | some r =>
          obtain ⟨ms, n⟩ := r
          simp only [mCallV, e1, e2] at h
          obtain ⟨fd, ps, F, kp, hb, hps⟩ := hF j ms n e2
          obtain ⟨hi, _⟩ := List.getElem?_eq_some_iff.mp e1
          have hs : i < σ.length := by rw [sm.len]; exact hi
          obtain ⟨u, hu, ru⟩ := sm.slot i _ _ e1 (List.getElem?_eq_getElem hs)
          have hsl : σ[i]? = some (some (.ref (g.F j))) := by rw [List.getElem?_eq_getElem hs, hu, ru.inv_fn]
          refine (pe_callL (i := i) (dvs := []) F hr hN hv kp hb .nil hx ha hdb hcd he hpl).run pq s σ H Q I ⟨hsl, ρ, st, sm, ?_⟩
          have hh := OutC.bind h
          cases ea : ma st with
          | no => rw [ea] at hh; exact hh
          | er c vs st' => rw [ea] at hh; exact hh
          | ok xs st1 =>
            rw [ea] at hh
            intro ρ1 H1 x1 s1 vs rs
            have h1 := hlen st xs st1 ea
            refine call_read (ps := ps) (dfl := []) (dvs := []) (fun _ _ => RpA.nil) (fun vs => by rw [hps]) hE s1 rs ?_ (by rw [List.append_nil]; exact hh ρ1 H1 x1)
            rw [List.append_nil, rs.1]; exact h1
      | _ => simp only [mCallV, e1] at h; exact h.elim
end
theorem len_nil : ∀ st xs st', mNil st = .ok xs st' → xs.length = 0 := fun st xs st' h => by
  have h : O.ok [] st = O.ok xs st' := h
  injection h with h1 h2
  rw [← h1]; rfl
theorem len_cons {m : M} {ms : MA} {n : Nat} (h : ∀ st xs st', ms st = .ok xs st' → xs.length = n) : ∀ st xs st', mCons m ms st = .ok xs st' → xs.length = n + 1 := fun st xs st' e => by
  unfold mCons at e
  cases e1 : m st with
  | no => rw [e1] at e; cases e
  | er c v s => rw [e1] at e; cases e
  | ok d st1 =>
    rw [e1] at e
    have e : bindO (ms st1) (fun ds st2 => O.ok (d :: ds) st2) = .ok xs st' := e
    cases e2 : ms st1 with
    | no => rw [e2] at e; cases e
    | er c v s => rw [e2] at e; cases e
    | ok ds st2 =>
      rw [e2] at e
      have e : O.ok (d :: ds) st2 = .ok xs st' := e
      injection e with e3 e4
      rw [← e3, List.length_cons, h st1 ds st2 e2]
theorem lenR_nil : ∀ st xs st', rNil st = .ok xs st' → xs.length = 0 := fun st xs st' h => by
  have h : O.ok [] st = O.ok xs st' := h
  injection h with h1 h2
  rw [← h1]; rfl
theorem lenR_dat {m : M} {ms : MR} {n : Nat} (h : ∀ st xs st', ms st = .ok xs st' → xs.length = n) : ∀ st xs st', rDat m ms st = .ok xs st' → xs.length = n + 1 := fun st xs st' e => by
  unfold rDat at e
  cases e1 : m st with
  | no => rw [e1] at e; cases e
  | er c v s => rw [e1] at e; cases e
  | ok d st1 =>
    rw [e1] at e
    have e : bindO (ms st1) (fun ds st2 => O.ok (Sl.d d :: ds) st2) = .ok xs st' := e
    cases e2 : ms st1 with
    | no => rw [e2] at e; cases e
    | er c v s => rw [e2] at e; cases e
    | ok ds st2 =>
      rw [e2] at e
      have e : O.ok (Sl.d d :: ds) st2 = .ok xs st' := e
      injection e with e3 e4
      rw [← e3, List.length_cons, h st1 ds st2 e2]
theorem lenR_ref {i : Nat} {ms : MR} {n : Nat} (h : ∀ st xs st', ms st = .ok xs st' → xs.length = n) : ∀ st xs st', rRef i ms st = .ok xs st' → xs.length = n + 1 := fun st xs st' e => by
  unfold rRef at e
  split at e
  · cases e
  · rename_i s' _ _
    cases e2 : ms st with
    | no => rw [e2] at e; cases e
    | er c v s => rw [e2] at e; cases e
    | ok ds st2 =>
      rw [e2] at e
      have e : O.ok (s' :: ds) st2 = .ok xs st' := e
      injection e with e3 e4
      rw [← e3, List.length_cons, h st ds st2 e2]
  · cases e
end RE
set_option maxHeartbeats 2000000
namespace RE
open PySem PySem.Spec PyProof.Rows L2
theorem okNo {P : Program} {w : World} {K : PySem.W.Frag} {mg : Str → Option Value} {base : Heap} {CX : CXT} {k : Nat} {f : Addr} {fd : FuncData} {ps : List Str} {g : G} {np n : Nat} (h : ps.length = np) : FnOk P w K mg base CX k f fd ps (spF g np n fun _ => .no) :=
  ⟨fun vs H Q E q => by rw [h]; exact q.1, fun A outer s H args us vs Q E _ _ _ _ q => by
    obtain ⟨_, _, _, _, _, _, o⟩ := q
    exact o.elim⟩
theorem tyP {X : Cx} {x : Str} {n : String} {p : Pos} (hg : Gl X x) (hm : X.mg x = none) (hv : bootBuiltins x = some (.type n)) (hn : x ≠ "__name__" := by decide) (hd : (x == ("__debug__" : Str)) = false := by decide) : PE X (.Name x p) (tC (.ty n)) := pe_bltn hg hm hv rfl hn hd
end RE
set_option maxHeartbeats 2000000
namespace RE
open PySem PySem.Spec PyProof.Rows L2
abbrev MO := S → O (Option Int)
def tMO (g : G) (ER : EK) (m : MO) : TO := fun σ H Q => ∃ ρ st, Sim g ρ σ H st ∧ OutC ER ρ st H (m st) fun o st' ρ' H' => Sim g ρ' σ H' st' → Q o H'
theorem POi {X : Cx} {e : Option Expr} {t t' : TO} (p : PO X e t) (h : ∀ σ H Q, t' σ H Q → t σ H Q) : PO X e t' := ⟨fun pq s σ H Q I q => p.run pq s σ H Q I (h _ _ _ q)⟩
def mPN : MO := fun st => .ok none st
def mPS (m : M) : MO := fun st => bindO (m st) fun d st1 => match d with
  | .int i => .ok (some i) st1
  | _ => .no
def cutD (ds : List D) (lo hi : Option Int) : List D := (ds.drop (HT.sIx ds.length 0 lo)).take (HT.sIx ds.length ds.length hi - HT.sIx ds.length 0 lo)
def mSl (m : M) (lo hi : MO) : M := fun st => bindO (m st) fun d st1 => bindO (lo st1) fun l st2 => bindO (hi st2) fun u st3 => match d with
  | .lst ds => .ok (.lst (cutD ds l u)) st3
  | .tup ds => .ok (.tup (cutD ds l u)) st3
  | .ks ds => .ok (.lst (cutD ds l u)) st3
  | _ => .no
section
variable {X : Cx} {g : G} {ER : EK} {pos p2 : Pos} {e : Expr}
theorem po_mN : PO X none (tMO g ER mPN) := POi po_none fun σ H Q h => by
  obtain ⟨ρ, st, s, h⟩ := h
  exact h ρ H Ext.refl s
theorem po_mS {m : M} (h : PE X e (tM g ER m)) : PO X (some e) (tMO g ER (mPS m)) := POi (po_some h) fun σ H Q h => by
  obtain ⟨ρ, st, s, h⟩ := h
  refine ⟨ρ, st, s, (OutC.bind h).mono fun d st1 ρ1 H1 _ h1 s1 x rx => ?_⟩
  cases d with
  | int i => exact ⟨i, rx.inv_int, h1 ρ1 H1 Ext.refl s1⟩
  | _ => exact h1.elim
theorem cut_ok {A : Addr → Prop} {H : Hp} {xs : List V} {ds : List D} (r : RpA g A H xs ds) (lo hi : Option Int) : RpA g A H (cutV xs lo hi) (cutD ds lo hi) := by
  unfold cutV cutD
  rw [r.1]
  exact (r.drop _).take _
theorem pe_mSl {lo hi : Option Expr} {m : M} {ml mh : MO} (hk : X.K = g.K) (he : PE X e (tM g ER m)) (hl : PO X lo (tMO g ER ml)) (hh : PO X hi (tMO g ER mh)) : PE X (.Subscript e (.Slice lo hi none p2) pos) (tM g ER (mSl m ml mh)) := by
  refine PEi (pe_slice (SlR.or sl_list sl_tupA) he hl hh) fun σ H Q h => ?_
  obtain ⟨ρ, st, s, h⟩ := h
  refine ⟨ρ, st, s, (OutC.bind h).mono fun d st1 ρ1 H1 _ h1 s1 x rx => ?_⟩
  refine ⟨ρ1, st1, s1, (OutC.bind h1).mono fun l st2 ρ2 H2 x2 h2 s2 => ?_⟩
  refine ⟨ρ2, st2, s2, (OutC.bind h2).mono fun u st3 ρ3 H3 x3 h3 s3 => ?_⟩
  have rx := (rx.go x2).go x3
  rw [hk]
  cases d with
  | lst ds =>
    obtain ⟨a, xs, rfl, ha, na, ra⟩ := rx.inv_lst
    exact .inl ⟨a, xs, rfl, SqL.of ha, fresh_lst s3 (cut_ok ra l u) fun ρ' H' v x s' r => h3 ρ' H' x s' v r⟩
  | tup ds =>
    obtain ⟨a, xs, rfl, ha, na, ra⟩ := rx.inv_tup
    refine .inr ⟨a, xs, rfl, SqT.of ha, fun z => ?_, fun _ => fresh_tup s3 (cut_ok ra l u) fun ρ' H' v x s' r => h3 ρ' H' x s' v r⟩
    have e : cutD ds l u = ds := by
      unfold cutD
      rw [← ra.1, z.1, z.2, List.drop_zero, Nat.sub_zero, ra.1, List.take_length]
    simp only [e] at h3
    exact h3 ρ3 H3 Ext.refl s3 _ (Rp.tup' ha na ra)
  | ks ds =>
    obtain ⟨a, xs, rfl, ha, ra⟩ := rx.seq (ds := ds) rfl
    rcases ha with ha | ha
    · exact .inl ⟨a, xs, rfl, ha, fresh_lst s3 (cut_ok ra l u) fun ρ' H' v x s' r => h3 ρ' H' x s' v r⟩
    · cases rx with
      | kls h n hl q => exact .inl ⟨_, _, rfl, .inl (.inr ⟨_, h⟩), fresh_lst s3 (cut_ok ⟨hl, q⟩ l u) fun ρ' H' v x s' r => h3 ρ' H' x s' v r⟩
      | klw h hl q => exact .inl ⟨_, _, rfl, .inr h, fresh_lst s3 (cut_ok ⟨hl, q⟩ l u) fun ρ' H' v x s' r => h3 ρ' H' x s' v r⟩
  | _ => exact h3.elim
end
end RE
set_option maxHeartbeats 2000000
namespace RE
open PySem PySem.Spec PyProof.Rows L2
def powD (a b : D) : Option D := match a, b with
  | .int i, .int j => if 0 ≤ j ∧ j ≤ 1000000 ∧ smallI i = true then some (.int (i ^ j.toNat)) else none
  | _, _ => none
theorem rop_pow {g : G} : ROp g (rI CPow fun i j => .int (i ^ j.toNat)) powD := by
  intro ρ σ st H x y dx dy d Q e s rx ry k
  unfold powD at e
  split at e
  · rename_i i j
    split at e
    · rename_i hz
      obtain ⟨h1, h2, h3⟩ := hz
      have h4 := smallI_ok h3
      exact ⟨i, j, rx.inv_int, ry.inv_int, ⟨h1, h2, by omega⟩, k ρ H _ Ext.refl s (by rw [← Option.some.inj e]; exact .int _)⟩
    · cases e
  · cases e
section
variable {X : Cx} {g : G} {ER : EK} {pos pos' : Pos}
theorem RpA.set {A : Addr → Prop} {H : Hp} {xs : List V} {ds : List D} {x : V} {d : D} (h : RpA g A H xs ds) (r : Rp g A H x d) (n : Nat) : RpA g A H (xs.set n x) (ds.set n d) :=
  ⟨by rw [List.length_set, List.length_set]; exact h.1, fun i y e hy he => by
    rw [List.getElem?_set] at hy he
    by_cases z : n = i
    · rw [if_pos z] at hy he
      split at hy
      · split at he
        · cases Option.some.inj hy; cases Option.some.inj he; exact r
        · cases he
      · cases hy
    · rw [if_neg z] at hy he
      exact h.2 i y e hy he⟩
/-- x[k] = v, x a list's cell -/
def mPutL (i : Nat) (mk mv : M) : MS := fun st => bindS (mv st) fun z st1 => match st1.cellOf i with
  | some k => bindS (mk st1) fun y st2 => match y with
    | .int j => match st2.ce[k]? with
      | some (.l ds) => match ixN ds.length j with
        | some n => .nx (st2.setC k (.l (ds.set n z)))
        | none => .no
      | _ => .no
    | _ => .no
  | none => .no
theorem ps_mPutL {o ke ve : Expr} {i : Nat} {mk mv : M} {tp : Pos} (ho : PE X o (tVar i)) (hk : PE X ke (tM g ER mk)) (hv : PE X ve (tM g ER mv)) (hs : swapsWithSole [.Subscript o ke tp] ve pos.line X.env = pure false := by rfl) (hw : swappedStores [.Subscript o ke tp] ve X.env = pure none := by rfl)
    (h1 : (assignEach [.Subscript o ke tp] X.env).map (·.2) = [assign (.Subscript o ke tp) X.env] := by rfl)
    (ha : ∀ v, assign (.Subscript o ke tp) X.env v = (do
      let oo ← holding [v] (eval o X.env)
      let ii ← holding [v, oo] (eval ke X.env)
      standAt tp
      holding [v, oo, ii] (setItem oo ii v)
      release [v, oo, ii] []) := by intro _; rfl) :
    PS X (.Assign [.Subscript o ke tp] ve pos) (tMS g ER (mPutL i mk mv)) := by
  refine PSi (ps_asg hv (pg_sub ho hk set_list ha) hs hw h1) fun E σ H h => ?_
  obtain ⟨ρ, st, s, h⟩ := h
  refine ⟨ρ, st, s, (OutS.bind h).mono fun z st1 ρ1 H1 _ h1 s1 v rv => ?_⟩
  cases e1 : st1.cellOf i with
  | none => simp only [e1] at h1; exact h1.elim
  | some k =>
    simp only [e1] at h1
    obtain ⟨a, hu, ha⟩ := s1.rf (cellOf_ok e1)
    refine ⟨_, hu, ρ1, st1, s1, (OutS.bind h1).mono fun y st2 ρ2 H2 x2 h2 s2 u ru => ?_⟩
    have ha2 := x2.pre k a ha
    have rv2 := rv.go x2
    cases y with
    | int j =>
      cases e3 : st2.ce[k]? with
      | none => simp only [e3] at h2; exact h2.elim
      | some c =>
        cases c with
        | l ds =>
          simp only [e3] at h2
          cases e4 : ixN ds.length j with
          | none => simp only [e4] at h2; exact h2.elim
          | some n =>
            simp only [e4] at h2
            obtain ⟨xs, q2, q3⟩ := s2.cell k _ a e3 ha2
            have xe := Ext.setC (c := .l (ds.set n z)) (o := .lst (xs.set n v)) s2 e3 rfl ha2
            exact ⟨a, xs, j, n, rfl, ru.inv_int, q2, by rw [q3.1]; exact e4, h2 ρ2 σ _ xe (s2.setC e3 rfl ha2 rfl ⟨_, upd_same, (q3.set rv2 n).ext xe.keep⟩)⟩
        | _ => simp only [e3] at h2; exact h2.elim
    | _ => exact h2.elim
/-- x[k], x a name: a datum, or a cell that stays one -/
def mIxB (i : Nat) (mb : M) : M := fun st => match st.cellOf i with
  | some k => bindO (mb st) fun y st1 => match st1.ce[k]? with
    | some (.l ds) => optO (ixI ds y) st1
    | _ => .no
  | none => mBin ixD (mVarF i) mb st
theorem pe_mIxB {x : Str} {p : Pos} {b : Expr} {i : Nat} {mb : M} (hk : X.K = g.K) (hu : X.A.units + 1 < cLine) (hx : PE X (.Name x p) (tVar i)) (hb : PE X b (tM g ER mb)) (hs : PlainIx b) (hn : NoSl b) : PE X (.Subscript (.Name x p) b pos) (tM g ER (mIxB i mb)) := by
  refine PEi (PE.or (pe_mIx hk hu (pe_mVarF hx) hb hs hn) (pe_ix ix_seq hx hb hs)) fun σ H Q h => ?_
  obtain ⟨ρ, st, s, h⟩ := h
  cases e1 : st.cellOf i with
  | none => simp only [mIxB, e1] at h; exact .inl ⟨ρ, st, s, h⟩
  | some k =>
    simp only [mIxB, e1] at h
    obtain ⟨a, hu, ha⟩ := s.rf (cellOf_ok e1)
    refine .inr ⟨_, hu, ρ, st, s, (OutC.bind h).mono fun y st1 ρ1 H1 x1 h1 s1 u ru => ?_⟩
    cases e3 : st1.ce[k]? with
    | none => simp only [e3] at h1; exact h1.elim
    | some c =>
      cases c with
      | l ds =>
        simp only [e3] at h1
        obtain ⟨xs, q2, q3⟩ := s1.cell k _ a e3 (x1.pre k a ha)
        cases y with
        | int j =>
          cases e4 : atD ds j with
          | none =>
            have e5 : ixI ds (.int j) = none := e4
            simp only [e5] at h1; exact h1.elim
          | some d =>
            have e5 : ixI ds (.int j) = some d := e4
            simp only [e5] at h1
            obtain ⟨v, hv, rv⟩ := atD_ok q3 e4
            rw [hk]
            exact .inl ⟨a, xs, j, v, rfl, ru.inv_int, SqL.of q2, hv, h1 ρ1 H1 Ext.refl s1 v rv⟩
        | _ => exact h1.elim
      | _ => simp only [e3] at h1; exact h1.elim
end
end RE
set_option maxHeartbeats 2000000
namespace RE
open PySem PySem.Spec PyProof.Rows L2
/-- e makes a list as its last deed -/
def tF (g : G) (ER : EK) (m : MA) : TE := fun σ H Q => ∃ ρ st, Sim g ρ σ H st ∧ OutC ER ρ st H (m st) fun ds st' ρ' H' => Sim g ρ' σ H' st' → ∀ xs, RpA g (Vol ρ' st') H' xs ds → ∀ p, H' p = none → Q (.ref p) (upd H' p (.lst xs))
section
variable {X : Cx} {g : G} {ER : EK} {pos pos' : Pos}
def fLst (ms : MA) : MA := fun st => bindO (ms st) fun ds st1 => if ds.length ≤ 1000 then .ok ds st1 else .no
theorem pe_fLst {es : List Expr} {ms : MA} (h : PA X es (tMA g ER ms)) : PE X (.List es pos) (tF g ER (fLst ms)) := by
  refine PEi (pe_lst h) fun σ H Q h => ?_
  obtain ⟨ρ, st, s, h⟩ := h
  refine ⟨ρ, st, s, (OutC.bind h).mono fun ds st1 ρ1 H1 _ h1 s1 xs rs => ?_⟩
  by_cases hz : ds.length ≤ 1000
  · rw [if_pos hz] at h1
    exact ⟨by rw [rs.1]; exact Nat.le_trans hz (by decide), h1 ρ1 H1 Ext.refl s1 xs rs⟩
  · rw [if_neg hz] at h1; exact h1.elim
def fAdd (ma mb : M) : MA := fun st => bindO (ma st) fun a st1 => bindO (mb st1) fun b st2 => match a, b with
  | .lst ds, .lst es => if ds.length + es.length ≤ lim then .ok (ds ++ es) st2 else .no
  | _, _ => .no
theorem pe_fAdd {a b : Expr} {ma mb : M} (ha : PE X a (tM g ER ma)) (hb : PE X b (tM g ER mb)) : PE X (.BinOp a .Add b pos) (tF g ER (fAdd ma mb)) := by
  refine PEi (pe_op op_cat ha hb) fun σ H Q h => ?_
  obtain ⟨ρ, st, s, h⟩ := h
  refine ⟨ρ, st, s, (OutC.bind h).mono fun d st1 ρ1 H1 _ h1 s1 v rv => ?_⟩
  refine ⟨ρ1, st1, s1, (OutC.bind h1).mono fun e st2 ρ2 H2 x2 h2 s2 u ru => ?_⟩
  cases d with
  | lst ds =>
    cases e with
    | lst es =>
      by_cases hz : ds.length + es.length ≤ lim
      · simp only [if_pos hz] at h2
        obtain ⟨a, xs, rfl, ha, na, ra⟩ := (rv.go x2).inv_lst
        obtain ⟨b, ys, rfl, hb, nb, rb⟩ := ru.inv_lst
        exact ⟨a, b, xs, ys, rfl, rfl, ha, hb, lim_ok (by rw [ra.1, rb.1]; exact hz), h2 ρ2 H2 Ext.refl s2 _ (ra.append rb)⟩
      · simp only [if_neg hz] at h2; exact h2.elim
    | _ => exact h2.elim
  | _ => exact h2.elim
def fList (m : M) : MA := fun st => bindO (m st) fun d st1 => optO (seqD d) st1
theorem pe_fList {p : Pos} {a : Expr} {m : M} (hk : X.K = g.K) (hg : Gl X "list") (hm : X.mg "list" = none) (ha : PE X a (tM g ER m)) (hs : starEach [a] X.env = (false, eval a X.env) :: starEach [] X.env := by rfl) (hpl : (backTo pos (starEach ([] : List Expr) X.env)).any (·.1) = false := by rfl) : PE X (.Call (.Name "list" p) [a] [] pos) (tF g ER (fList m)) := by
  refine PEi (pe_callTy call_list_of hg hm (by decide +kernel) (pa_cons ha pa_nil hs) (by decide) (by decide) hs hpl) fun σ H Q h => ?_
  obtain ⟨ρ, st, s, h⟩ := h
  refine ⟨ρ, st, s, (OutC.bind h).mono fun d st1 ρ1 H1 _ h1 s1 v rv => ?_⟩
  cases e : seqD d with
  | none => simp only [e] at h1; exact h1.elim
  | some ds =>
    simp only [e] at h1
    obtain ⟨a, ys, rfl, ha, ra⟩ := rv.seq e
    rw [hk]
    exact ⟨a, ys, rfl, ha, h1 ρ1 H1 Ext.refl s1 ys ra⟩
/-- a or b, two lists made new -/
def fOr (m n : MA) : MA := fun st => bindO (m st) fun ds st1 => if ds.isEmpty = true then n st1 else .ok ds st1
theorem pe_fOr {a b : Expr} {m n : MA} (hk : X.K = g.K) (ha : PE X a (tF g ER m)) (hb : PE X b (tF g ER n)) : PE X (.BoolOp .Or [a, b] pos) (tF g ER (fOr m n)) := by
  refine PEi (pe_orT ha (pe_one hb)) fun σ H Q h => ?_
  obtain ⟨ρ, st, s, h⟩ := h
  refine ⟨ρ, st, s, (OutC.bind h).mono fun ds st1 ρ1 H1 x1 h1 s1 xs rs p hp => ?_⟩
  have ht : ∀ k, k = !ds.isEmpty → TruV X.K (.ref p) (upd H1 p (.lst xs)) k := fun k e => .inl ⟨xs, SqL.of upd_same, by rw [e, empty_of rs.1]⟩
  cases e : ds.isEmpty with
  | true =>
    rw [e, if_pos rfl] at h1
    refine ⟨false, ht false (by rw [e]; rfl), iteF ⟨ρ1, st1, s1.new hp, h1.later (Ext.new s1 hp)⟩⟩
  | false =>
    rw [e, if_neg (by decide)] at h1
    exact ⟨true, ht true (by rw [e]; rfl), iteT (h1 ρ1 H1 Ext.refl s1 xs rs p hp)⟩
/-- x = a new list: a cell -/
def mSetF (i : Nat) (m : MA) : MS := fun st => bindS (m st) fun ds st1 => .nx (st1.addC i (.l ds))
theorem ps_mSetF {i : Nat} {x : Str} {e : Expr} {m : MA} (hN : X.N.Nodup) (hi : X.N[i]? = some x) (hx : Loc X.env.scope x) (he : PE X e (tF g ER m)) {spos : Pos} (hs : swapsWith e (some (.Name x pos')) spos.line X.env = pure false := by rfl) (hf : X.fn x = true ∨ X.env.scope.names.lookup x = some .local := by first | exact .inl rfl | exact .inr rfl) :
    PS X (.Assign [.Name x pos'] e spos) (tMS g ER (mSetF i m)) := by
  refine PSi (ps_set hN hi hx he hs hf) fun E σ H h => ?_
  obtain ⟨ρ, st, s, h⟩ := h
  refine ⟨ρ, st, s, (OutS.bind h).mono fun ds st1 ρ1 H1 _ h1 s1 xs rs p hp => ?_⟩
  have xe := Ext.addC (c := .l ds) (i := i) (o := .lst xs) s1 hp
  exact h1 (ρ1.addC p) _ _ xe (s1.addC hp ⟨xs, upd_same, rs.ext xe.keep⟩)
/-- a new list handed on as a cell -/
def rFr (m : MA) (ms : MR) : MR := fun st => bindO (m st) fun ds st1 => bindO (ms (st1.addC st1.sl.length (.l ds))) fun as st2 => .ok (.rf st1.ce.length :: as) st2
theorem pa_rFr {e : Expr} {es : List Expr} {m : MA} {ms : MR} (ha : PE X e (tF g ER m)) (hr : PA X es (tMR g ER ms)) (hs : starEach (e :: es) X.env = (false, eval e X.env) :: starEach es X.env := by rfl) : PA X (e :: es) (tMR g ER (rFr m ms)) := by
  refine PAi (pa_cons ha hr hs) fun σ H Q h => ?_
  obtain ⟨ρ, st, s, h⟩ := h
  refine ⟨ρ, st, s, (OutC.bind h).mono fun ds st1 ρ1 H1 _ h1 s1 xs rs p hp => ?_⟩
  have xe := Ext.addC (c := .l ds) (i := st1.sl.length) (o := .lst xs) s1 hp
  have sa := s1.addC (c := .l ds) (i := st1.sl.length) (o := .lst xs) hp ⟨xs, upd_same, rs.ext xe.keep⟩
  have es' : σ.set st1.sl.length (some (.ref p)) = σ := List.set_eq_of_length_le (by rw [s1.len]; exact Nat.le_refl _)
  rw [es'] at sa
  refine ⟨ρ1.addC p, _, sa, ?_⟩
  have hz : (ρ1.addC p).ad[st1.ce.length]? = some p := by
    show (ρ1.ad ++ [p])[st1.ce.length]? = _
    rw [List.getElem?_append_right (by rw [s1.clen]; exact Nat.le_refl _), s1.clen, Nat.sub_self]; rfl
  refine ((OutC.bind h1).later xe).mono fun as st2 ρ2 H2 e2 h2 s2 vs rv => ?_
  exact h2 ρ2 H2 Ext.refl s2 (.ref p :: vs) (ArgsOk.cons ⟨p, rfl, e2.pre _ _ hz⟩ rv)
theorem lenR_fr {m : MA} {ms : MR} {n : Nat} (h : ∀ st xs st', ms st = .ok xs st' → xs.length = n) : ∀ st xs st', rFr m ms st = .ok xs st' → xs.length = n + 1 := fun st xs st' e => by
  unfold rFr at e
  cases e1 : m st with
  | no => rw [e1] at e; cases e
  | er c v s => rw [e1] at e; cases e
  | ok d st1 =>
    rw [e1] at e
    have e : bindO (ms (st1.addC st1.sl.length (.l d))) (fun as st2 => O.ok (Sl.rf st1.ce.length :: as) st2) = .ok xs st' := e
    cases e2 : ms (st1.addC st1.sl.length (.l d)) with
    | no => rw [e2] at e; cases e
    | er c v s => rw [e2] at e; cases e
    | ok ds st2 =>
      rw [e2] at e
      have e : O.ok (Sl.rf st1.ce.length :: ds) st2 = .ok xs st' := e
      injection e with e3 e4
      rw [← e3, List.length_cons, h _ ds st2 e2]
end
def spFr (g : G) (np n : Nat) (ms : MS) (mf : MA) : Sp := fun vs H Q E => vs.length = np ∧ ∃ (ρ : Rh) (as : List Sl) (ce : List Ce), as.length = np ∧ Sim g ρ (vs.map some) H ⟨as, ce⟩ ∧ ∃ st1 ds st', ms (S.start as n ce) = .nx st1 ∧ mf st1 = .ok ds st' ∧
  ∀ ρ' H' xs, Ext ρ ⟨as, ce⟩ H ρ' st' H' → Cells g ρ' H' st' → RpA g (Vol ρ' st') H' xs ds → ∀ p, H' p = none → Q (.ref p) (upd H' p (.lst xs))
section
variable {P : Program} {w : World} {base : Heap} {K : PySem.W.Frag} {mg : Str → Option Value}
theorem okFr {g : G} {x qual : Str} {st : Stmt} {f : Addr} {fd : FuncData} {N ps : List Str} {k np n : Nat} {ms : MS} {mf : MA} (F : Fun K x qual st f fd) (S' : FnScope N ps (defScope st)) (hp : ps.length = np) (hN : N.length = n) (hpn : np ≤ n)
    (hbody : ∀ (cdv : Value) (A : Around) (outer : List Env) (s : Shared) (H : Hp) (E : XK), Room k (A.deeper (envOfC qual (defScope st) s.heap.objs.size f cdv)) →
      PSs (cxOf (L2.CX P w) P w K mg base N qual (defScope st) f cdv A outer s H E) (defBody st) (fun D σ H => tMS g (erOf g E) ms { D with nx := fun σ' H' => tRet (tF g (erOf g E) mf) D σ' H' } σ H)) : FnOk P w K mg base (L2.CX P w) (k + 1) f fd ps (spFr g np n ms mf) := by
  refine F.okX S' (fun vs H Q E h => by rw [hp]; exact h.1) fun cdv A outer s H vs Q E hr h => ⟨_, hbody cdv A outer s H E hr, ?_⟩
  obtain ⟨hl, ρ, as, ce, ha, sm, st1, ds, st', e1, e2, q⟩ := h
  subst hN
  refine ⟨ρ, S.start as N.length ce, sim_start sm (by omega), ?_⟩
  rw [e1]
  intro ρ1 σ1 H1 x1 s1
  refine ⟨ρ1, st1, s1, ?_⟩
  rw [e2]
  intro ρ2 H2 x2 s2 xs rs p hp'
  exact q ρ2 H2 xs ((x1.trans x2).ce rfl) s2.toCells rs p hp'
end
/-- what it gives for such data -/
def runFr (ms : MS) (mf : MA) (n : Nat) (ds : List D) (st : S) : O (List D) := match ms (S.start (ds.map .d) n []) with
  | .nx st1 => match mf st1 with
    | .ok es _ => .ok es st
    | _ => .no
  | _ => .no
def fCall (ms : MS) (mf : MA) (n : Nat) (ma : MA) : MA := fun st => bindO (ma st) fun ds st1 => runFr ms mf n ds st1
section
variable {X : Cx} {g : G} {ER : EK} {CX : CXT} {k n np : Nat} {f : Addr} {fd : FuncData} {ps : List Str} {ms : MS} {mf : MA} {E : XK} {x : Str} {p pos : Pos} {e : Expr} {es : List Expr} {ma : MA}
theorem pe_fCall (F : FnOk X.prog X.w X.K X.mg X.base CX k f fd ps (spFr g np n ms mf)) (hr : Room k X.A) (hg : Gl X x) (hm : X.mg x = some (.ref f)) (hk : PySem.W.keepIn X.K (.ref f) = true) (hb : Binds X.K fd ps []) (hx : Passes CX X E)
    (ha : PA X (e :: es) (tMA g ER ma)) (hlen : ∀ st xs st', ma st = .ok xs st' → xs.length = np) (hdb : (x == ("__debug__" : Str)) = false := by decide) (he : starEach (e :: es) X.env = (false, eval e X.env) :: starEach es X.env := by rfl) (hpl : (backTo pos (starEach es X.env)).any (·.1) = false := by rfl) :
    PE X (.Call (.Name x p) (e :: es) [] pos) (tF g ER (fCall ms mf n ma)) := by
  refine PEi (pe_call F hr hg hm hk hb .nil hx ha hdb he hpl) fun σ H Q h => ?_
  obtain ⟨ρ, st, s, h⟩ := h
  refine ⟨ρ, st, s, ?_⟩
  have hh := OutC.bind h
  cases ea : ma st with
  | no => rw [ea] at hh; exact hh
  | er c vs st' => rw [ea] at hh; exact hh
  | ok ds st1 =>
    rw [ea] at hh
    intro ρ1 H1 x1 s1 vs rs
    have h1 := hlen st ds st1 ea
    have h2 : OutC ER ρ1 st1 H1 (runFr ms mf n ds st1) _ := hh ρ1 H1 x1
    unfold runFr at h2
    cases e1 : ms (S.start (ds.map .d) n []) with
    | nx stb =>
      simp only [e1] at h2
      cases e2 : mf stb with
      | ok es' stc =>
        simp only [e2] at h2
        rw [List.append_nil]
        refine ⟨by rw [rs.1]; exact h1, ⟨[], Vol ρ1 st1⟩, ds.map .d, [], by rw [List.length_map]; exact h1, sim_args s1 rs, stb, es', stc, e1, e2, fun ρ' H' xs x' cc rx p' hp' => ?_⟩
        obtain ⟨b1, b2, b3⟩ := back_call s1 rfl x'
        exact h2 ρ1 H' b1 b2 xs (rx.ext fun a o h n => ⟨h, fun v => n (b3 a v)⟩) p' hp'
      | er c v s => simp only [e2] at h2; exact h2.elim
      | no => simp only [e2] at h2; exact h2.elim
    | _ => simp only [e1] at h2; exact h2.elim
end
end RE
set_option maxHeartbeats 2000000
namespace RE
open PySem PySem.Spec PyProof.Rows L2
def clsIs (o : Obj) (s : String) : Bool := match o.cls with
  | .type t => decide (t = s)
  | _ => false
/-- the value v of the written part is the datum d -/
def ktV (K : PySem.W.Frag) : Nat → Value → D → Bool
  | _, .int i _, .int j => decide (i = j)
  | n + 1, .ref a, .kt ds => match K.lookup a with
    | some o => (clsIs o "tuple" && o.dict.isNone) && match o.data with
      | .seq its _ => decide (ds.length ≤ 1000) && ktL K n its.toList ds
      | _ => false
    | none => false
  | _, _, _ => false
where ktL (K : PySem.W.Frag) (n : Nat) : List Value → List D → Bool
  | [], [] => true
  | v :: vs, d :: ds => ktV K n v d && ktL K n vs ds
  | _, _ => false
theorem clsIs_ok {o : Obj} {s : String} (h : clsIs o s = true) : o.cls = .type s := by
  unfold clsIs at h
  split at h
  · rename_i t e; rw [e, of_decide_eq_true h]
  · cases h
theorem ktV_ok {K : PySem.W.Frag} : ∀ (n : Nat) (v : Value) (d : D), ktV K n v d = true → ∃ u, RelV u v ∧ ∀ (g : G), g.K = K → ∀ A H, Rp g A H u d := by
  intro n
  induction n with
  | zero =>
    intro v d h
    cases v <;> cases d <;> first
      | (have e := of_decide_eq_true (show decide _ = true from h); subst e; exact ⟨.int _, ⟨_, rfl⟩, fun g hg A H => .int _⟩)
      | cases h
  | succ n ih =>
    have all : ∀ (vs : List Value) (ds : List D), ktV.ktL K n vs ds = true → ∃ us, Vals us vs ∧ ∀ (g : G), g.K = K → ∀ A H, RpA g A H us ds := by
      intro vs
      induction vs with
      | nil =>
        intro ds h
        cases ds with
        | nil => exact ⟨[], .nil, fun g hg A H => RpA.nil⟩
        | cons _ _ => cases h
      | cons v vs ihv =>
        intro ds h
        cases ds with
        | nil => cases h
        | cons d ds =>
          have h' : (ktV K n v d && ktV.ktL K n vs ds) = true := h
          obtain ⟨h1, h2⟩ := (Bool.and_eq_true_iff).mp h'
          obtain ⟨u, r1, q1⟩ := ih v d h1
          obtain ⟨us, r2, q2⟩ := ihv ds h2
          exact ⟨u :: us, .cons r1 r2, fun g hg A H => RpA.cons (q1 g hg A H) (q2 g hg A H)⟩
    intro v d h
    cases v with
    | int i t =>
      cases d with
      | int j => have e := of_decide_eq_true (show decide (i = j) = true from h); subst e; exact ⟨.int _, ⟨_, rfl⟩, fun g hg A H => .int _⟩
      | _ => cases h
    | ref a =>
      cases d with
      | kt ds =>
        unfold ktV at h
        cases e : K.lookup a with
        | none => simp only [e] at h; cases h
        | some o =>
          simp only [e] at h
          obtain ⟨h1, h2⟩ := Bool.and_eq_true_iff.mp h
          cases e2 : o.data with
          | seq its m =>
            simp only [e2] at h2
            obtain ⟨h3, h4⟩ := Bool.and_eq_true_iff.mp h2
            obtain ⟨us, r, q⟩ := all its.toList ds h4
            have hz : its.size ≤ sizeLine := by
              have e3 := r.length
              have e4 := (q ⟨K, fun _ => 0, fun _ => 0, fun _ => []⟩ rfl (fun _ => False) (fun _ => none)).1
              have e5 : its.size = its.toList.length := by rw [Array.length_toList]
              have e6 := of_decide_eq_true h3
              rw [e5, ← e3, e4]
              exact Nat.le_trans e6 (by decide)
            refine ⟨.ref a, rfl, fun g hg A H => ?_⟩
            subst hg
            obtain ⟨h1, h5⟩ := Bool.and_eq_true_iff.mp h1
            exact .ktup (.inl ⟨o, its, m, e, clsIs_ok h1, Option.isNone_iff_eq_none.mp h5, e2, hz, r⟩) (q g rfl A H).1 (q g rfl A H).2
          | _ => simp only [e2] at h2; cases h2
      | _ => cases h
    | _ => cases d <;> cases h
/-- the constant x of the module -/
theorem const_t {K : PySem.W.Frag} {g : G} {mg : Str → Option Value} {x : Str} {a : Addr} {d : D} {n : Nat} (hg : g.K = K) (h : mg x = some (.ref a)) (e : ktV K n (.ref a) d = true) : ∃ a, mg x = some (.ref a) ∧ ∀ A H, Rp g A H (.ref a) d := by
  obtain ⟨u, r, q⟩ := ktV_ok n _ d e
  have hu : u = .ref a := by
    cases u with
    | ref b => have r' : Value.ref a = Value.ref b := r; injection r' with r'; rw [r']
    | int i => obtain ⟨t, r'⟩ := (show ∃ t, Value.ref a = Value.int i t from r); cases r'
    | str z => obtain ⟨t, r'⟩ := (show ∃ t, Value.ref a = Value.str z t from r); cases r'
    | bl b => have r' : Value.ref a = Value.bool b := r; cases r'
    | non => have r' : Value.ref a = Value.none := r; cases r'
    | _ => first | (cases r; done) | (obtain ⟨t, r'⟩ := r; cases r'; done)
  exact ⟨a, h, fun A H => by rw [← hu]; exact q g hg A H⟩
/-- the script -/
theorem script_rp {g : G} {H : Hp} {a : Addr} {ns : List Int} (hO : Only H) (h : SqL g.K H a (ns.map V.int)) : Rp g (fun _ => False) H (.ref a) (.ks (ns.map .int)) := by
  have q : RpA g (fun _ => False) H (ns.map V.int) (ns.map D.int) := ⟨by rw [List.length_map, List.length_map], fun i x d hx hd => by
    rw [List.getElem?_map] at hx hd
    obtain ⟨n, hn, rfl⟩ := Option.map_eq_some_iff.mp hx
    obtain ⟨m, hm, rfl⟩ := Option.map_eq_some_iff.mp hd
    rw [hn] at hm
    cases Option.some.inj hm
    exact .int n⟩
  rcases h with h | h
  · rcases h with h | ⟨o, h⟩
    · rcases hO a with z | ⟨o, xs, z⟩
      · rw [h] at z; cases z
      · rw [h] at z; cases z
    · exact .kls h (fun f => f.elim) q.1 q.2
  · exact .klw h q.1 q.2
/-- the law's promise -/
def spLaw (K : PySem.W.Frag) : Sp := fun vs H Q _ => ∃ (a : Addr) (ns : List Int), vs = [.ref a] ∧ Only H ∧ SqL K H a (ns.map V.int) ∧ ns.length ≤ 63 ∧ ∀ H', Q (.bl true) H'
def trueS : SO → Bool
  | .rt (.bl true) _ => true
  | _ => false
theorem law_imp {P : Program} {w : World} {g : G} {mg : Str → Option Value} {base : Heap} {CX : CXT} {k n : Nat} {f : Addr} {fd : FuncData} {ps : List Str} {ms : MS} (F : FnOk P w g.K mg base CX k f fd ps (spF g 1 n ms))
    (h : ∀ ns : List Int, ns.length ≤ 63 → trueS (ms (S.start [.d (.ks (ns.map .int))] n [])) = true) : FnOk P w g.K mg base CX k f fd ps (spLaw g.K) := F.imp fun vs H Q E q => by
  obtain ⟨a, ns, rfl, hO, hS, hl, q⟩ := q
  refine ⟨rfl, ⟨[], fun _ => False⟩, [.d (.ks (ns.map .int))], [], rfl, ⟨⟨fun a f => f.elim, rfl, fun k c a e => by simp at e, fun j k c c' a e => by simp at e, fun k c a e => by simp at e⟩, rfl, fun i s v e1 e2 => ?_⟩, ?_⟩
  · cases i with
    | zero =>
      have e1 : some (Sl.d (.ks (ns.map .int))) = some s := e1
      have e2 : some (some (V.ref a)) = some v := e2
      cases Option.some.inj e1
      cases Option.some.inj e2
      refine ⟨.ref a, rfl, (script_rp hO hS).ext fun b o hb n => ⟨hb, fun v => ?_⟩⟩
      rcases v with v | ⟨k, c, hc, _⟩
      · exact v.elim
      · simp at hc
    | succ i => simp at e1
  · have h1 := h ns hl
    unfold trueS at h1
    split at h1
    · rename_i st' e
      rw [e]
      intro ρ' H' v _ _ r
      rw [r.inv_bl]
      exact q H'
    · cases h1
theorem cx_no {P : Program} {w : World} {H : Hp} {s : Shared} {e : Value} {s' : Shared} (h : L2.CX P w [] H s (fun _ _ _ => False) e s') : False := by
  obtain ⟨_, _, _, _, _, _, _, _, _, _, _, _, h⟩ := h
  exact h
end RE
set_option maxHeartbeats 4000000
namespace RE
open PySem PySem.Spec PyProof.Rows L2 Builtin Builtin.ObjectAttr
section
variable {prog : Program} {w : World} {A : Around} {R : Result → Shared → Prop} {hp : Heap} {gs : Array GenState} {dr : Drawn} {tk : Nat} {os : OsState}
/-- the store of the first field of an error -/
theorem err_store {K : W.Frag} {nm : Str} {t1 : Tok} {v : Value} {x C : Addr} {fv : Array Value} {cd : ClassData} {bmB : List Value} (kin : K.In hp) (hx : hp.get? x = some { cls := .ref C, data := .fields fv }) (hcd : W.clsIn K C = some cd)
    (mro : cd.mro = .ref C :: bmB) (pass : ∀ self : Value, refuseLoop self "__setattr__" bmB = pure ()) (obj : bmB.contains (.type "object") = true) (dict : cd.hasDict = true) (none' : W.findIn K (.ref C) nm = some none) (hw : ∀ h' t' p, (∀ b o, b ≠ x → hp.get? b = some o → h'.get? b = some o) → hp.objs.size ≤ p → p ≠ x → h'.get? x = some { cls := .ref C, dict := some p, data := .fields fv } →
      h'.Ns1 p (fun y => if y = nm then some v else none) → R (.ok (.ret .none)) ⟨h', gs, dr, t', os⟩) :
    codeAny (model prog w) A (.call (.builtin "object.__setattr__") ⟨[.ref x, .str nm t1, v], []⟩) R ⟨hp, gs, dr, tk, os⟩ := by
  have inst : W.InstAt hp x { cls := .ref C, data := .fields fv } C none := ⟨hx, rfl, rfl, trivial⟩
  have st := F.store_object
  have full : cd.mro.isEmpty = false := by rw [mro]; rfl
  have hob : cd.mro.contains (.type "object") = true := by rw [mro, List.contains_cons, obj, Bool.or_true]
  have nx : x ≠ hp.objs.size := Nat.ne_of_lt (Heap.lt_size hx)
  have sub : W.Looks (model prog w) hp (isInstance (.ref x) (.type "object")) true :=
    inst.type.andThen (W.looks_mroIn kin (by unfold W.mroIn; rw [hcd, Option.bind_some, if_neg (by rw [full]; decide), hob]))
  refine codeAny_call_builtin st.slot.plain st.entry (@W.check_slot (model prog w) _ _ ⟨hp, gs, dr, tk, os⟩ "object.__setattr__" "object" "__setattr__" (.ref x) [.str nm t1, v] [] _ st.kind st.split sub (st.args (.ref x) (.str nm t1) v) ?_)
  have lm : W.Looks (model prog w) hp (mroOf (.ref C)) cd.mro := (W.looks_clsIn kin hcd).andThen .now
  have lt : W.Looks (model prog w) hp (storeTaker? none) none := .now
  have lc : W.Looks (model prog w) hp (classData C) cd := W.looks_clsIn kin hcd
  rw [W.osa_eq, refuse_eq]
  refine wpAny_bind (wpAny_bind (inst.type.at (wpAny_bind (lm.at ?_))))
  rw [mro, refuseLoop_ref, pass]
  refine wpAny_pure (wpAny_bind (inst.type.at (wpAny_bind ((W.looks_findIn kin none').at (wpAny_bind (lt.at ?_))))))
  show wpAny _ _ (storeInOwnDict (.ref x) (.ref C) (.str nm t1) nm v false) _ _ _
  obtain ⟨a1, a2, a3, a4, a5, a6, a7, a8, a9, a10, a11⟩ := cd
  dsimp only at dict
  subst dict
  unfold storeInOwnDict
  unfold ownDictForStores
  repeat (first | with_reducible refine HandSPX.store_in_new ?_ ?_ | with_reducible refine wpAny_loadPart_at hx ?_ | with_reducible refine lc.at ?_ | wp_step)
  · exact ⟨_, #[], _, (Heap.get?_update_ne _ _ _ _ nx.symm).trans (Heap.get?_push_at rfl rfl), rfl, fun e he => absurd he (by simp), fun _ => rfl⟩
  · intro h' t' hn hs
    have hx1 : (hp.push { cls := .type "dict", data := .dict #[] }).get? x = some { cls := .ref C, data := .fields fv } := Heap.get?_push_of_some _ hx
    refine hw h' t' hp.objs.size (fun b o hb ho => ?_) (Nat.le_refl _) nx.symm ((hs.2 x nx).trans (Heap.get?_update_self _ hx1 rfl)) hn
    exact (hs.2 b (Nat.ne_of_lt (Heap.lt_size ho))).trans ((Heap.get?_update_ne _ _ _ _ hb).trans (Heap.get?_push_of_some _ ho))
end
/-- what the written part says of such a class -/
structure ErrC (K : PySem.W.Frag) (C : Addr) (newId : String) (bmB : List Value) : Prop where
  cls : ∃ nm q N bs sn sub ab col dd k0 k1 k2 k3 k5, K.lookup C = some (excClassObj nm q C N bs bmB true sn sub ab col dd k0 k1 k2 k3 k5 newId)
  setA : PySem.W.findIn K (.ref C) "__setattr__" = some (some (.builtin "object.__setattr__"))
  isE : PySem.W.subIn K (.ref C) (.type "BaseException") = some true
  isT : PySem.W.typeIn K (.ref C) = some (.type "type")
  kept : PySem.W.keepIn K (.ref C) = true
/-- the facts of the built-in class -/
structure BaseC (B newId initId : String) (bmB : List Value) : Prop where
  F : ExcBaseFacts B newId initId bmB
  pass : ∀ self : Value, refuseLoop self "__setattr__" bmB = pure ()
  obj : bmB.contains (.type "object") = true
  typ : typeOf (.type B) = pure (.type "type")
theorem base_VE : BaseC "ValueError" "ValueError.__new__" "ValueError.__init__" [.type "ValueError", .type "Exception", .type "BaseException", .type "object"] := ⟨F.excBase_ValueError, F.store_ValueError.passes, by decide +kernel, by kernel_rfl⟩
theorem base_LE : BaseC "LookupError" "LookupError.__new__" "LookupError.__init__" [.type "LookupError", .type "Exception", .type "BaseException", .type "object"] := ⟨F.excBase_LookupError, F.store_LookupError.passes, by decide +kernel, by kernel_rfl⟩
section
variable {X : Cx} {pn : List (Addr × Obj)} {σ : L2.St} {H : Hp} {s : Shared} {a C : Addr} {f : Str} {y : V} {u : Value} {E : Value → Shared → Prop} {A : Around} {B newId initId : String} {bmB : List Value}
theorem err_init {us : List Value} {Q : Value → Shared → Prop} (BC : BaseC B newId initId bmB) (T : ErrC X.K C newId bmB) (In : Inv X pn σ H s) (e : H a = some (exo a C none)) (hl : us.length ≤ sizeLine) (h : ∀ s', Inv X pn σ H s' → Q .none s') :
    wpAny (model X.prog X.w) A (call (.builtin initId) (.ref a :: us)) Q E s := by
  obtain ⟨nm, q, N, bs, sn, sub, ab, col, dd, k0, k1, k2, k3, k5, hC⟩ := T.cls
  obtain ⟨t1, ho⟩ := exo_at In.hok e
  obtain ⟨hp, gs, dr, tk, os⟩ := s
  refine wpAny_call (HandSPX.init_base BC.F (fun _ => rfl) (In.kIn _ _ hC) ho hl fun h' t2 kp hx => ?_)
  have J := In.write (t' := tk) (x := a) (e := a) (o := exo a C none) (by rw [e]; exact True.intro) (.inl rfl) kp ⟨_, hx⟩ (exo_ok hx)
  have same : upd H a (exo a C none) = H := by
    funext b
    by_cases hb : b = a
    · rw [hb, upd_same, e]
    · rw [upd_ne hb]
  rw [same] at J
  exact h _ J
/-- self.f = y, the only one -/
theorem err_set {Q : Unit → Shared → Prop} (BC : BaseC B newId initId bmB) (T : ErrC X.K C newId bmB) (In : Inv X pn σ H s) (e : H a = some (exo a C none)) (hno : PySem.W.findIn X.K (.ref C) f = some none) (ry : RelV y u)
    (h : ∀ p s', H p = none → p ≠ a → Inv X pn σ (upd (upd H p (exd p [(f, y)])) a (exo a C (some p))) s' → Q () s') : wpAny (model X.prog X.w) A (setAttr (.ref a) f u) Q E s := by
  obtain ⟨nm, q, N, bs, sn, sub, ab, col, dd, k0, k1, k2, k3, k5, hC⟩ := T.cls
  have hcl : PySem.W.clsIn X.K C = some { name := nm, bases := bs, mro := .ref C :: bmB, ns := N, qualname := q, hasDict := true, slotNames := sn, subclasses := sub, abstract := ab, collection := col, hasDel := false } := by
    unfold PySem.W.clsIn
    rw [hC] <;> rfl
  obtain ⟨t1, ho⟩ := exo_at In.hok e
  obtain ⟨hp, gs, dr, tk, os⟩ := s
  refine PySem.W.set_plain In.kIn (ox := { cls := .ref C, dict := none, data := .fields #[.ref t1, .none, .none, .none, .bool false, .none] }) (od := none) ⟨ho, rfl, rfl, trivial⟩ T.setA ?_
  refine err_store In.kIn ho hcl rfl BC.pass BC.obj rfl hno fun h' t' p kp pn' pa hx hn => ?_
  have hp0 : H p = none := In.hok.fresh pn'
  have np : ∀ {b : Addr} {o : Obj}, hp.get? b = some o → b ≠ p := fun z => Nat.ne_of_lt (Nat.lt_of_lt_of_le (Heap.lt_size z) pn')
  have na : ∀ {b : Addr}, H b = none → b ≠ a := fun n z => by rw [z, e] at n; cases n
  have un : Un X.fs [] H (upd (upd H p (exd p [(f, y)])) a (exo a C (some p))) hp h' := by
    refine ⟨fun b o z n _ _ => kp b o (na n) z, fun b o z n _ _ => ⟨o.slots, kp b o (na n) z⟩, fun b o z n _ => ?_, fun b o z _ => ?_, fun b xs z => ?_, fun b o v z => ?_, fun b ps z => ⟨#[], ?_⟩⟩
    · rw [upd_ne (na n), upd_ne (np z)]; exact n
    · by_cases hb : b = a
      · rw [hb]; exact ⟨_, hx⟩
      · exact ⟨o, kp b o hb z⟩
    · rw [upd_ne (at_ne e z exo_tup), upd_ne (ne_of_none z hp0)]; exact z
    · rw [upd_ne (at_ne e z exo_frz), upd_ne (ne_of_none z hp0)]; exact z
    · rw [upd_ne (at_ne e z exo_tbl), upd_ne (ne_of_none z hp0), z]; simp
  refine h p _ hp0 pa (In.un (t' := t') un fun b o z => ?_)
  by_cases hb : b = a
  · subst hb
    rw [upd_same] at z
    cases z
    exact exo_ok hx
  · rw [upd_ne hb] at z
    by_cases hd : b = p
    · subst hd
      rw [upd_same] at z
      cases z
      exact exd_ok hn (relO_put (fs := []) ry fun _ => trivial)
    · rw [upd_ne hd] at z
      refine (In.hok b o z).stay (fun c v hc w => kp c v ?_ w) (fun c hc => ?_) fun c xs hc => ?_
      · rcases hc with hc | hc
        · rw [hc]; exact hb
        · exact at_ne e hc exo_own
      · rw [upd_ne (at_ne e hc exo_own), upd_ne (ne_of_none hc hp0)]; exact hc
      · rw [upd_ne (at_ne e hc exo_tup), upd_ne (ne_of_none hc hp0)]; exact hc
end
def tErrI (K : PySem.W.Frag) (newId : String) (bmB : List Value) (ta : TA) : TE := fun σ H Q => ta σ H fun vs H1 => ∃ (a C : Addr) (ws : List V), vs = .ref a :: ws ∧ ws.length ≤ 1000 ∧ ErrC K C newId bmB ∧ H1 a = some (exo a C none) ∧ Q .non H1
def tErrS (K : PySem.W.Frag) (newId : String) (bmB : List Value) (f : Str) (to te : TE) : TS := fun D σ H => te σ H fun y H1 => to σ H1 fun x H2 => ∃ a C : Addr, x = .ref a ∧ ErrC K C newId bmB ∧ PySem.W.findIn K (.ref C) f = some none ∧
  H2 a = some (exo a C none) ∧ ∀ p, H2 p = none → p ≠ a → D.nx σ (upd (upd H2 p (exd p [(f, y)])) a (exo a C (some p)))
section
variable {X : Cx} {o e : Expr} {es : List Expr} {to te : TE} {ta : TA} {f x : Str} {p p' p1 p2 pos : Pos} {B newId initId : String} {bmB : List Value}
theorem pe_errI {pl : Sem Bool} (BC : BaseC B newId initId bmB) (hg : Gl X x) (hm : X.mg x = none) (hv : bootBuiltins x = some (.type B)) (init : PySem.W.findCls X.K (.type B) (.type "type") "__init__" = some (.val (.builtin initId))) (hstub : Manifest.isStub B = false) (hhand : PySem.W.handedIn (.builtin initId) = true) (ha : PA X (e :: es) ta)
    (hn : x ≠ "__name__" := by decide) (hdb : (x == ("__debug__" : Str)) = false := by decide)
    (hc : eval (.Call (.Attribute (.Name x p1) "__init__" p2) (e :: es) [] pos) X.env = (do
      let ov ← eval (.Name x p1) X.env
      standAt p2.atName
      let (fm, self) ← holding [ov] (getMethod ov "__init__" pl)
      callWith pos fm self (backTo pos (starEach (e :: es) X.env)) (backToKw pos (keywordEach [] X.env))) := by rfl) (he : starEach (e :: es) X.env = (false, eval e X.env) :: starEach es X.env := by rfl) (hpl : (backTo pos (starEach es X.env)).any (·.1) = false := by rfl) :
    PE X (.Call (.Attribute (.Name x p1) "__init__" p2) (e :: es) [] pos) (tErrI X.K newId bmB ta) := by
  refine ⟨fun pn s σ H Q In h => ?_⟩
  refine PySem.W.methodCall_KW (ld_blt In hg hm hv ?_ hn hdb) hc
  obtain ⟨m, fr⟩ := In.fr
  refine PySem.W.method_type fr In.ok.mod.kin BC.typ hstub init hhand ?_
  show wpAny _ _ (callWith pos (Value.builtin initId) [] (backTo pos (starEach (e :: es) X.env)) []) _ _ _
  refine PyProof.Rows.callWith_method1 (thn (ha.run pos pn _ σ H _ (In.tok _) h) fun us s1 h1 => ?_) he hpl
  obtain ⟨vs, H1, I1, r1, a, C, ws, ev, hl, T, ea, q⟩ := h1
  subst ev
  cases r1 with
  | @cons _ ua _ ur ra rw' =>
    obtain rfl : ua = Value.ref a := ra
    exact err_init BC T I1 ea (by rw [← Paired.length rw', sizeLine_eq]; omega) fun s' J => ⟨.non, H1, J, rfl, q⟩
theorem ps_errS (BC : BaseC B newId initId bmB) (ho : PE X o to) (he : PE X e te) (hs : swapsWith e (some (.Attribute o f p')) pos.line X.env = pure false := by rfl) : PS X (.Assign [.Attribute o f p'] e pos) (tErrS X.K newId bmB f to te) := by
  refine ⟨fun pn s σ H D In h => ?_⟩
  refine plainObj_wpAny_Assign_Attribute (thn (he.run pn s σ H _ In h) fun v s1 h1 => ?_) hs
  obtain ⟨y, H1, I1, r1, q1⟩ := h1
  refine thn (ho.run pn s1 σ H1 _ I1 q1) fun u s2 h2 => ?_
  obtain ⟨x, H2, I2, rv2, a, C, rfl, T, hno, ea, q⟩ := h2
  obtain rfl : u = Value.ref a := rv2
  exact err_set BC T I2 ea hno r1 fun p s' n ne J => ⟨σ, _, J, q p n ne⟩
end
section
variable {X : Cx} {pn : List (Addr × Obj)} {σ : L2.St} {H1 H2 : Hp} {hp hp2 h2 : Heap} {g1 g2 : Array GenState} {d1 d2 : Drawn} {t1 t2 : Nat} {os1 os2 : OsState} {a C : Addr} {Q : XK}
/-- the end of a making that kept no field: the error is let go -/
theorem made_bare (I1 : Inv X pn σ H1 ⟨hp, g1, d1, t1, os1⟩) (rs : Raises X (.ref C)) (ha : hp.objs.size ≤ a) (kp : ∀ b o, hp.get? b = some o → hp2.get? b = some o) (un : Un (frs X.stack) [] (upd H1 a (exo a C none)) H2 hp2 h2) (hok : HOk X.prog X.w H2 h2) (ho : os2 = os1) (hb : AllBare g2)
    (ea : H2 a = some (exo a C none)) (q : Q (.ref C) none (del H2 a)) : MkP X pn σ Q (.ref a) ⟨h2, g2, d2, t2, os2⟩ := by
  obtain ⟨ta0, hobj⟩ := exo_at hok ea
  have hn := I1.hok.fresh ha
  obtain ⟨Gh, g1', g2'⟩ := restrict h2 fun b => decide (b ≠ a)
  have same : ∀ b, b ≠ a → Gh.get? b = h2.get? b := fun b hb => g1' b (decide_eq_true hb)
  have none0 : Gh.get? a = none := g2' a (by simp)
  have nha : ∀ {b : Addr} {o : Obj}, hp.get? b = some o → b ≠ a := fun z => Nat.ne_of_lt (Nat.lt_of_lt_of_le (Heap.lt_size z) ha)
  have up : ∀ {b : Addr}, b ≠ a → H1 b = none → upd H1 a (exo a C none) b = none := fun hb n => by rw [upd_ne hb]; exact n
  have keep : ∀ {b : Addr} {o : HO}, H1 b = some o → upd H1 a (exo a C none) b = some o ∧ b ≠ a := fun z => ⟨by rw [upd_ne (ne_of_none z hn)]; exact z, ne_of_none z hn⟩
  have U : Un (frs X.stack) [] H1 (del H2 a) hp Gh := by
    refine ⟨fun b o z n hf hx => ?_, fun b o z n hf hx => ?_, fun b o z n hx => ?_, fun b o z hx => ?_, fun b xs z => ?_, fun b o v z => ?_, fun b ps z => ?_⟩
    · rw [same b (nha z)]; exact un.keep b o (kp b o z) (up (nha z) n) hf hx
    · rw [same b (nha z)]; exact un.slot b o (kp b o z) (up (nha z) n) hf hx
    · rw [del_ne (nha z)]; exact un.free b o (kp b o z) (up (nha z) n) hx
    · rw [same b (nha z)]; exact un.there b o (kp b o z) hx
    · rw [del_ne (keep z).2]; exact un.tups b xs (keep z).1
    · rw [del_ne (keep z).2]; exact un.frzs b o v (keep z).1
    · rw [del_ne (keep z).2]; exact un.tbls b ps (keep z).1
  have hok3 : HOk X.prog X.w (del H2 a) Gh := fun b o z => by
    have hba : b ≠ a := fun e => by rw [e, del_same] at z; cases z
    rw [del_ne hba] at z
    have noa : ∀ {c : Addr}, H2 c = some (.own b) → c ≠ a := fun hc => at_ne ea hc exo_own
    refine (hok b o z).stay (fun c v hc w => ?_) (fun c hc => by rw [del_ne (noa hc)]; exact hc) fun c xs hc => by rw [del_ne (at_ne ea hc exo_tup)]; exact hc
    have hca : c ≠ a := by
      rcases hc with hc | hc
      · rw [hc]; exact hba
      · exact noa hc
    rw [same c hca]; exact w
  have J : Inv X pn σ (del H2 a) ⟨Gh, g2, d2, t2, os2⟩ := I1.call' (ch := []) ho U hok3 hb (fun b z => absurd z (by simp))
  refine ⟨a, _, _, ⟨Gh, g2, d2, t2, os2⟩, _, .ref C, none, rfl, J, fun b o z => ?_, none0, hobj, ⟨rfl, rfl⟩, rfl, rfl, del_same, rfl, hb, rs, q⟩
  by_cases hba : b = a
  · rw [hba, none0] at z; cases z
  · exact (same b hba).symm.trans z
end
/-- C(..), its __init__ keeping sp -/
def tMkE (C : Addr) (sp : Sp) (ta : TA) : L2.St → Hp → XK → Prop := fun σ H Q => ta σ H fun vs H1 => vs.length ≤ 1000 ∧ ∀ a, H1 a = none → sp (.ref a :: vs) (upd H1 a (exo a C none))
  (fun v H2 => v = .non ∧ ((H2 a = some (exo a C none) ∧ Q (.ref C) none (del H2 a)) ∨
    ∃ (d : Addr) (fs : List (Str × V)), H2 a = some (exo a C (some d)) ∧ H2 d = some (exd d fs) ∧ H1 d = none ∧ Q (.ref C) (some d) (upd (del H2 a) d (.xd fs)))) (fun _ _ _ => False)
section
variable {X : Cx} {CX : CXT} {x : Str} {C fI : Addr} {k : Nat} {fd : FuncData} {ps : List Str} {sp : Sp} {B newId initId : String} {bmB : List Value} {e : Expr} {es : List Expr} {ta : TA} {p pos : Pos}
theorem pmk_core (BC : BaseC B newId initId bmB) (T : ErrC X.K C newId bmB) (iC : PySem.W.findIn X.K (.ref C) "__init__" = some (some (.ref fI))) (tI : PySem.W.typeIn X.K (.ref fI) = some (.type "function"))
    (F1 : FnOk X.prog X.w X.K X.mg X.base CX k fI fd ps sp) (hr : Room (k + 1) X.A) (hb : Binds X.K fd ps []) (hx : Passes CX X (fun _ _ _ => False)) {pn : List (Addr × Obj)} {s1 : Shared} {σ : L2.St} {H1 : Hp} {Q : XK} {us : List Value} {vs : List V}
    (I1 : Inv X pn σ H1 s1) (r1 : Vals vs us) (hz : vs.length ≤ 1000) (q1 : ∀ a, H1 a = none → sp (.ref a :: vs) (upd H1 a (exo a C none))
      (fun v H2 => v = .non ∧ ((H2 a = some (exo a C none) ∧ Q (.ref C) none (del H2 a)) ∨
        ∃ (d : Addr) (fs : List (Str × V)), H2 a = some (exo a C (some d)) ∧ H2 d = some (exd d fs) ∧ H1 d = none ∧ Q (.ref C) (some d) (upd (del H2 a) d (.xd fs)))) (fun _ _ _ => False)) :
    wpAny (model X.prog X.w) X.A (call (.ref C) us) (MkP X pn σ Q) X.xe s1 := by
  obtain ⟨nm, qn, N, bs, sn, sub, ab, col, dd, k0, k1, k2, k3, k5, hC⟩ := T.cls
  obtain ⟨hp, gs1, dr, tk, os⟩ := s1
  have above : hp.objs.size ≤ hp.objs.size + 1 := Nat.le_succ _
  have hn : H1 (hp.objs.size + 1) = none := I1.hok.fresh above
  have hw := q1 (hp.objs.size + 1) hn
  have kk : ∀ b o, hp.get? b = some o → ((hp.push (PySem.W.kdv_tup us)).push (HandSPX.excO C hp.objs.size)).get? b = some o := fun b o e => Heap.get?_push_of_some _ (Heap.get?_push_of_some _ e)
  have hget : ((hp.push (PySem.W.kdv_tup us)).push (HandSPX.excO C hp.objs.size)).get? (hp.objs.size + 1) = some (HandSPX.excO C hp.objs.size) := by heap_get
  have I2 : Inv X pn σ (upd H1 (hp.objs.size + 1) (exo (hp.objs.size + 1) C none)) ⟨(hp.push (PySem.W.kdv_tup us)).push (HandSPX.excO C hp.objs.size), gs1, dr, tk, os⟩ :=
    I1.laid (t' := tk) (a := hp.objs.size + 1) (o := exo (hp.objs.size + 1) C none) (h' := (hp.push (PySem.W.kdv_tup us)).push (HandSPX.excO C hp.objs.size)) kk above (exo_ok hget)
  have rv2 : Vals (V.ref (hp.objs.size + 1) :: vs) (Value.ref (hp.objs.size + 1) :: us) := .cons rfl r1
  have hlen : (Value.ref (hp.objs.size + 1) :: us ++ []).length = ps.length := by
    have e := rv2.length
    rw [F1.len _ _ _ _ hw] at e
    rw [List.append_nil]; exact e.symm
  have hus : us.length ≤ sizeLine := by rw [← Paired.length r1, sizeLine_eq]; omega
  have hbind := hb _ (Value.ref (hp.objs.size + 1) :: us) I2.kIn hlen
  rw [List.append_nil] at hbind
  refine wpAny_call (HandSPX.call_own BC.F (fun _ => rfl) (I1.kIn _ _ hC) (PySem.W.looks_findIn I1.kIn iC) (fun self => PySem.W.bind_fn I1.kIn self tI) hus
    (codeAny_mono (F1.run _ X.stack _ _ ⟨Value.ref (hp.objs.size + 1) :: us, []⟩ (Value.ref (hp.objs.size + 1) :: us) _ _ (fun _ _ _ => False) (hr.make C us []) (I2.env0.make C us []) hbind rv2 hw) fun r s' hr' => ?_))
  cases r with
  | error er => exact hx pn σ _ _ er s' I2 hr'
  | ok fl =>
    cases fl with
    | ret u =>
      obtain ⟨v, H2, os2, bare2, un2, hok2, rv, ev, hh⟩ := hr'
      subst ev
      obtain ⟨h2, g2, d2, t2, osx⟩ := s'
      rcases hh with ⟨ea, q2⟩ | ⟨d, fs, ea, ed, hd1, q2⟩
      · exact ⟨rv, made_bare I1 (raises_own T.isE T.isT) above kk un2 hok2 os2 bare2 ea q2⟩
      · exact ⟨rv, mk_end (raises_own T.isE T.isT) I1 above kk un2 hok2 os2 bare2 ea ed hd1 q2⟩
    | next => exact hr'.elim
    | brk => exact hr'.elim
    | cont => exact hr'.elim
theorem pmk_err (BC : BaseC B newId initId bmB) (T : ErrC X.K C newId bmB) (iC : PySem.W.findIn X.K (.ref C) "__init__" = some (some (.ref fI))) (tI : PySem.W.typeIn X.K (.ref fI) = some (.type "function"))
    (F1 : FnOk X.prog X.w X.K X.mg X.base CX k fI fd ps sp) (hr : Room (k + 1) X.A) (hb : Binds X.K fd ps []) (hx : Passes CX X (fun _ _ _ => False)) (hg : Gl X x) (hm : X.mg x = some (.ref C)) (ha : PA X (e :: es) ta) (hdb : (x == ("__debug__" : Str)) = false := by decide) (he : starEach (e :: es) X.env = (false, eval e X.env) :: starEach es X.env := by rfl) (hpl : (backTo pos (starEach es X.env)).any (·.1) = false := by rfl) :
    PMk X (.Call (.Name x p) (e :: es) [] pos) (tMkE C sp ta) := by
  intro pn s σ H Q In h
  refine wpAny_Call_Name_kw (ld_glob In hg hm ?_ hdb)
  refine PySem.W.callWith_K (h₀ := X.base) In.ok.mod.kin T.kept (thn (ha.run pos pn s σ H _ In h) fun us s1 h1 => ?_) he hpl
  obtain ⟨vs, H1, I1, r1, hz, q1⟩ := h1
  exact ⟨I1.kIn, pmk_core BC T iC tI F1 hr hb hx I1 r1 hz q1⟩
theorem pmk_err0 (BC : BaseC B newId initId bmB) (T : ErrC X.K C newId bmB) (iC : PySem.W.findIn X.K (.ref C) "__init__" = some (some (.ref fI))) (tI : PySem.W.typeIn X.K (.ref fI) = some (.type "function"))
    (F1 : FnOk X.prog X.w X.K X.mg X.base CX k fI fd ps sp) (hr : Room (k + 1) X.A) (hb : Binds X.K fd ps []) (hx : Passes CX X (fun _ _ _ => False)) (hg : Gl X x) (hm : X.mg x = some (.ref C)) (hdb : (x == ("__debug__" : Str)) = false := by decide) :
    PMk X (.Call (.Name x p) [] [] pos) (tMkE C sp tNil) := by
  intro pn s σ H Q In h
  refine wpAny_Call_Name_kw (ld_glob In hg hm ?_ hdb)
  exact PySem.W.callWith_K0 In.kIn T.kept (pmk_core (us := []) (vs := []) BC T iC tI F1 hr hb hx In .nil (Nat.zero_le _) h.2)
end
end RE
set_option maxHeartbeats 4000000
namespace RE
open PySem PySem.Spec PyProof.Rows L2
/-- a clause: its class, the slot of its name, what its suite does -/
structure Clause where
  c : Value
  i : Option Nat
  ts : Addr → Value → Option Addr → TS
/-- behind a suite the name's slot is empty -/
def gone (D : Ends) (i : Nat) : Ends := ⟨fun σ' H' => D.nx (σ'.set i none) H', D.rt, fun σ' H' => D.bk (σ'.set i none) H', fun σ' H' => D.ct (σ'.set i none) H'⟩
def inCl (k : Clause) (a : Addr) (cls : Value) (d : Option Addr) (D : Ends) (σ : L2.St) (H : Hp) : Prop := match k.i with
  | none => k.ts a cls d D σ H
  | some i => k.ts a cls d (gone D i) (σ.set i (some (.ref a))) H
def wCl (K : PySem.W.Frag) (Wout : WX) (D : Ends) : List Clause → WX
  | [] => Wout
  | k :: r => fun cls d σ H => ∃ b, PySem.W.exmOne K cls k.c = some b ∧ (b = true → ∀ a, H a = none → inCl k a cls d D σ H) ∧ (b = false → wCl K Wout D r cls d σ H)
inductive Cls (X : Cx) : List ExceptHandler → List Clause → Prop
  | nil : Cls X [] []
  | bare {x : Str} {c : Value} {ts : Addr → Value → Option Addr → TS} {b0 : Stmt} {suite : List Stmt} {np p : Pos} {hds : List ExceptHandler} {l : List Clause} (hc : Names X x c)
      (hsu : ∀ (a : Addr) (oe : Obj) (cls : Value) (d : Option Addr) (pn : List (Addr × Obj)), Zc cls d oe → (∃ vs, oe.data = .fields vs) → PSs (X.suite a ((a, oe) :: pn)) (b0 :: suite) (ts a cls d)) (r : Cls X hds l) :
      Cls X (.ExceptHandler (some (.Name x np)) none (b0 :: suite) p :: hds) (⟨c, none, ts⟩ :: l)
  | as {x n : Str} {c : Value} {i : Nat} {ts : Addr → Value → Option Addr → TS} {b0 : Stmt} {suite : List Stmt} {np p : Pos} {hds : List ExceptHandler} {l : List Clause} (hc : Names X x c) (hi : X.N[i]? = some n) (hln : X.env.kindOf n = some .local)
      (hsu : ∀ (a : Addr) (oe : Obj) (cls : Value) (d : Option Addr) (pn : List (Addr × Obj)), Zc cls d oe → (∃ vs, oe.data = .fields vs) → PSs (X.suite a ((a, oe) :: pn)) (b0 :: suite) (ts a cls d)) (r : Cls X hds l) :
      Cls X (.ExceptHandler (some (.Name x np)) (some n) (b0 :: suite) p :: hds) (⟨c, some i, ts⟩ :: l)
section
variable {X : Cx} {pn : List (Addr × Obj)} {σ : L2.St} {H : Hp} {sI s : Shared} {B h3 : Heap} {a : Addr} {cls : Value} {d : Option Addr} {D : Ends} {Wout : WX}
/-- an error that has come down at a try -/
structure Down (X : Cx) (pn : List (Addr × Obj)) (σ : L2.St) (H : Hp) (sI s : Shared) (B : Heap) (a : Addr) (cls : Value) (d : Option Addr) (h3 : Heap) : Prop where
  inv : Inv X pn σ H sI
  nb : ∀ b o, sI.heap.get? b = some o → b ∉ frs X.stack → B.get? b = some o
  up : sI.heap.UpToSlots h3
  fly : HandSPX.FlyingZ B (X.env :: X.outer) a (Zc cls d) h3
  na : H a = none
  os : s.os = sI.os
  ag : AllBare s.gens
theorem Down.more {h4 : Heap} (x : Down X pn σ H sI s B a cls d h3) (fl : HandSPX.FlyingZ B (X.env :: X.outer) a (Zc cls d) h4) (up : h3.UpToSlots h4) : Down X pn σ H sI s B a cls d h4 := ⟨x.inv, x.nb, x.up.trans up, fl, x.na, x.os, x.ag⟩
/-- the state within the suite of a clause -/
theorem Down.suite (x : Down X pn σ H sI s B a cls d h3) (hs : X.stack = X.env :: X.outer) (hf : X.env.frame = some X.env.locals) :
    Inv X pn σ H { s with heap := h3 } ∧ ∃ oe, Zc cls d oe ∧ (∃ vs, oe.data = .fields vs) ∧ h3.get? a = some oe ∧ Inv (X.suite a ((a, oe) :: (X.pn ++ pn))) [] σ H { s with heap := h3 } := by
  have J := x.inv.landed x.nb x.fly.1 x.up x.os x.ag (s' := { s with heap := h3 })
  obtain ⟨oe, vs, he, hz, hd⟩ := x.fly.there
  have ff := x.fly.2.2.1
  have outF : a ∉ frs (X.env :: X.outer) := fun hm => by
    obtain ⟨_, o2, e2, hq1⟩ := ff.mem hm
    rw [he] at e2; cases e2
    exact hq1 _ hd
  have offL : a ≠ X.env.locals := fun z => outF (List.mem_filterMap.mpr ⟨X.env, List.mem_cons_self, by rw [hf, z]⟩)
  have offF : a ∉ X.fs := fun hm => by
    obtain ⟨en, hen, q⟩ := List.mem_filterMap.mp hm
    exact outF (List.mem_filterMap.mpr ⟨en, List.mem_cons_of_mem _ hen, q⟩)
  exact ⟨J, oe, hz, ⟨vs, hd⟩, he, J.suite he hd x.na offL offF⟩
theorem cl_go (hs : X.stack = X.env :: X.outer) (hf : X.env.frame = some X.env.locals) (hN : X.N.Nodup) (tk : Takes X Wout) (x : Down X pn σ H sI s B a cls d h3) (ok : X.Ok) :
    ∀ {hds : List ExceptHandler} {l : List Clause}, Cls X hds l → wCl X.K Wout D l cls d σ H → wpAny (model X.prog X.w) X.A (handleBy (.ref a) X.env hds) (SP X pn D) X.xe { s with heap := h3 } := by
  intro hds l hk
  have ends : ∀ {s6 : Shared} {oe : Obj} {f : Flow} {E : Ends}, SP (X.suite a ((a, oe) :: (X.pn ++ pn))) [] E f s6 → SP X pn E f s6 := fun {s6 oe f E} h => by
    cases f with
    | next => obtain ⟨σ6, H6, S6, q6⟩ := h; exact ⟨_, _, S6.unsuite ok, q6⟩
    | brk => obtain ⟨σ6, H6, S6, q6⟩ := h; exact ⟨_, _, S6.unsuite ok, q6⟩
    | cont => obtain ⟨σ6, H6, S6, q6⟩ := h; exact ⟨_, _, S6.unsuite ok, q6⟩
    | ret u => obtain ⟨v6, σ6, H6, S6, r6, q6⟩ := h; exact ⟨_, _, _, S6.unsuite ok, r6, q6⟩
  induction hk with
  | nil =>
    intro w
    refine wpAny_handleBy_nil ?_
    obtain ⟨j1, j2, j3, oe, vs, Tr, oT, ts', he, hz, hd, h1, hr⟩ := id x.fly
    unfold PySem.passOn
    refine wpAny_bind (wpAny_field (vs := vs) he hd h1 ?_)
    rw [if_neg (show ¬ ((Value.ref Tr == Value.none) = true) from by simp)]
    have last : wpAny (model X.prog X.w) X.A (setFlight (.ref a) X.env.frame) (fun _ s4 => wpAny (model X.prog X.w) X.A (throw (.ref a) : Sem Flow) (SP X pn D) X.xe s4) X.xe { s with heap := h3 } := by
      rw [hf]
      refine HandSPX.setFlight_upZ x.fly fun h4 hh4 up4 => wpAny_throw (tk _ _ ?_)
      exact ⟨a, B, sI, pn, σ, H, cls, d, rfl, x.inv, x.nb, x.up.trans up4, .inr (.inr (by rw [hs]; exact hh4)), x.na, x.os, x.ag, w⟩
    first
      | exact wpAny_bind (wpAny_pure (wpAny_bind last))
      | exact wpAny_bind last
  | @bare y c ts b0 suite np p hdsR l2 hc hsu r ih =>
    intro w
    obtain ⟨b, eb, yes, no1⟩ := w
    obtain ⟨JA, oeA, hzA, hd3, heA, SA⟩ := x.suite hs hf
    refine wpAny_handleBy_cons (codeAny_handlers_test ?_) (fun q => nomatch q)
    have tyA : PySem.W.Looks (model X.prog X.w) h3 (typeOf (.ref a)) cls := fun A Q E s k q => wpAny_typeOf_ref (k _ _ heA) (by rw [hzA.1]; exact q)
    have mtA := PySem.W.exm_one (M := model X.prog X.w) JA.kIn tyA eb
    have test : ∀ {Q : Value → Shared → Prop} {E : Value → Shared → Prop}, Q c { s with heap := h3 } → wpAny (model X.prog X.w) (X.A.mark (some (.ref a))) (eval (.Name y np) X.env) Q E { s with heap := h3 } := fun {Q E} q => by
      obtain ⟨hg, hdb, hm | ⟨hm, hv, hn⟩⟩ := hc
      · exact ld_glob (X := X.suite a ((a, oeA) :: (X.pn ++ pn))) SA hg hm q hdb
      · exact ld_blt (X := X.suite a ((a, oeA) :: (X.pn ++ pn))) SA hg hm hv q hn hdb
    refine test (mtA.here ?_)
    cases b with
    | true =>
      refine codeAny_handlers_suite (?_)
      refine HandSPX.lands_againZ x.fly fun h4 fl4 up4 => ?_
      obtain ⟨JB, oeB, hzB, hd4, heB, SB⟩ := (x.more fl4 up4).suite hs hf
      exact wpAny_mono ((hsu a oeB cls d (X.pn ++ pn) hzB hd4).run [] _ _ H _ SB (yes rfl a x.na)) (fun f s6 hsp => ends hsp) (fun _ _ z => False.elim z)
    | false =>
      show wpAny _ X.A (handleBy (.ref a) X.env hdsR) _ _ _
      exact ih (no1 rfl)
  | @as y n c i ts b0 suite np p hdsR l2 hc hi hln hsu r ih =>
    intro w
    obtain ⟨b, eb, yes, no1⟩ := w
    obtain ⟨JA, oeA, hzA, hd3, heA, SA⟩ := x.suite hs hf
    refine wpAny_handleBy_cons (codeAny_handlers_test ?_) (fun q => nomatch q)
    have tyA : PySem.W.Looks (model X.prog X.w) h3 (typeOf (.ref a)) cls := fun A Q E s k q => wpAny_typeOf_ref (k _ _ heA) (by rw [hzA.1]; exact q)
    have mtA := PySem.W.exm_one (M := model X.prog X.w) JA.kIn tyA eb
    have test : ∀ {Q : Value → Shared → Prop} {E : Value → Shared → Prop}, Q c { s with heap := h3 } → wpAny (model X.prog X.w) (X.A.mark (some (.ref a))) (eval (.Name y np) X.env) Q E { s with heap := h3 } := fun {Q E} q => by
      obtain ⟨hg, hdb, hm | ⟨hm, hv, hn⟩⟩ := hc
      · exact ld_glob (X := X.suite a ((a, oeA) :: (X.pn ++ pn))) SA hg hm q hdb
      · exact ld_blt (X := X.suite a ((a, oeA) :: (X.pn ++ pn))) SA hg hm hv q hn hdb
    refine test (mtA.here ?_)
    cases b with
    | true =>
      refine codeAny_handlers_suite_as (?_)
      refine HandSPX.lands_againZ x.fly fun h4 fl4 up4 => ?_
      obtain ⟨JB, oeB, hzB, hd4, heB, SB⟩ := (x.more fl4 up4).suite hs hf
      refine store_ok (X := X.suite a ((a, oeB) :: (X.pn ++ pn))) (v := .ref a) SB hN hi (.inl hln) rfl (fun s5 S5 => ?_) (.inr hln)
      refine wpAny_mono ((hsu a oeB cls d (X.pn ++ pn) hzB hd4).run [] s5 _ H (gone D i) S5 (yes rfl a x.na)) (fun f s6 hsp => ?_) (fun _ _ z => False.elim z)
      have away : ∀ {σ6 : L2.St} {H6 : Hp} {Q : Shared → Prop}, Inv (X.suite a ((a, oeB) :: (X.pn ++ pn))) [] σ6 H6 s6 → (∀ s7, Inv X pn (σ6.set i none) H6 s7 → Q s7) →
          wpAny (model X.prog X.w) X.A (do bindName X.env n .none; unbindBehindTheSuite X.env n p) (fun _ s7 => Q s7) X.xe s6 := fun S6 hq => gone_ok (S6.unsuite ok) hN hi hln hq
      cases f with
      | next => obtain ⟨σ6, H6, S6, q6⟩ := hsp; exact away S6 fun s7 J7 => ⟨_, _, J7, q6⟩
      | brk => obtain ⟨σ6, H6, S6, q6⟩ := hsp; exact away S6 fun s7 J7 => ⟨_, _, J7, q6⟩
      | cont => obtain ⟨σ6, H6, S6, q6⟩ := hsp; exact away S6 fun s7 J7 => ⟨_, _, J7, q6⟩
      | ret u => obtain ⟨v6, σ6, H6, S6, r6, q6⟩ := hsp; exact away S6 fun s7 J7 => ⟨_, _, _, J7, r6, q6⟩
    | false =>
      show wpAny _ X.A (handleBy (.ref a) X.env hdsR) _ _ _
      exact ih (no1 rfl)
end
section
variable {X : Cx} {body : List Stmt} {h0 : ExceptHandler} {hds : List ExceptHandler} {l : List Clause} {pos : Pos} {tb : WX → TS} {Wout : WX}
theorem ps_try_cl (hs : X.stack = X.env :: X.outer) (hf : X.env.frame = some X.env.locals) (hN : X.N.Nodup) (tk : Takes X Wout)
    (bd : ∀ (W : WX) (pn : List (Addr × Obj)) (xe : Value → Shared → Prop), Takes (X.tr pn xe) W → PassesOwn (model X.prog X.w) X.A X.env xe → PSs (X.tr pn xe) body (tb W))
    (hk : Cls X (h0 :: hds) l) : PS X (.Try body (h0 :: hds) [] [] pos) (fun D σ H => tb (wCl X.K Wout D l) D σ H) := by
  refine ⟨fun pn s σ H D In h => ?_⟩
  have ok := In.ok
  have hfrm : X.A.frames = some (X.env :: X.outer) := ok.frames.trans (by rw [hs])
  refine wpAny_Try_except ?_
  have run := (bd (wCl X.K Wout D l) (X.pn ++ pn) (fun e s1 => wpAny (model X.prog X.w) X.A (noteFrame e X.env) (fun _ s2 => wpAny (model X.prog X.w) X.A (setFlight e none) (fun _ s3 =>
    wpAny (model X.prog X.w) X.A (handleBy e X.env (h0 :: hds)) (SP X pn D) X.xe s3) X.xe s2) X.xe s1) (fun u s' xx => by
      obtain ⟨a, B, sI, pn', σ', H', cls, d, rfl, J', nb, up, sky, na, os, ag, w⟩ := xx
      have skyE : Sky B (X.env :: X.outer) a (Zc cls d) X.env.locals s'.heap := hs ▸ sky
      show wpAny _ X.A (noteFrame (Value.ref a) X.env) _ _ _
      exact Sky.land Zc.steady hfrm hf skyE fun h3 fl3 up3 => cl_go hs hf hN tk ⟨J'.ofTry ok, nb, up.trans up3, fl3, na, os, ag⟩ ok hk w) PassesOwn.looking).run [] s σ H D (In.toTry _) h
  refine wpAny_mono run (fun f s1 hsp => ?_) fun e s1 he => he
  cases f with
  | next => obtain ⟨σ', H', J', q⟩ := hsp; exact wpAny_execs_nil ⟨σ', H', J'.ofTry ok, q⟩
  | brk => obtain ⟨σ', H', J', q⟩ := hsp; exact ⟨σ', H', J'.ofTry ok, q⟩
  | cont => obtain ⟨σ', H', J', q⟩ := hsp; exact ⟨σ', H', J'.ofTry ok, q⟩
  | ret u => obtain ⟨v, σ', H', J', r, q⟩ := hsp; exact ⟨v, σ', H', J'.ofTry ok, r, q⟩
end
end RE
set_option maxHeartbeats 4000000
namespace RE
open PySem PySem.Spec PyProof.Rows L2
def spIni1 (K : PySem.W.Frag) (newId : String) (bmB : List Value) (f : Str) : Sp := fun vs H Q _ => ∃ (a C : Addr) (y : V), vs = [.ref a, y] ∧ ErrC K C newId bmB ∧ PySem.W.findIn K (.ref C) f = some none ∧ H a = some (exo a C none) ∧
  ∀ p, H p = none → p ≠ a → Q .non (upd (upd H p (exd p [(f, y)])) a (exo a C (some p)))
def spIni0 (K : PySem.W.Frag) (newId : String) (bmB : List Value) : Sp := fun vs H Q _ => ∃ (a C : Addr), vs = [.ref a] ∧ ErrC K C newId bmB ∧ H a = some (exo a C none) ∧ Q .non H
section
variable {P : Program} {w : World} {K : PySem.W.Frag} {mg : Str → Option Value} {base : Heap} {x qual p f : Str} {st : Stmt} {fI : Addr} {fd : FuncData} {newId : String} {bmB : List Value}
theorem okIni1 (F : Fun K x qual st fI fd) (S' : FnScope ["self", p] ["self", p] (defScope st))
    (hbody : ∀ (cdv : Value) (A : Around) (outer : List Env) (s : Shared) (H : Hp) (E : XK), Room 0 (A.deeper (envOfC qual (defScope st) s.heap.objs.size fI cdv)) →
      PSs (cxOf (L2.CX P w) P w K mg base ["self", p] qual (defScope st) fI cdv A outer s H E) (defBody st)
        (fun D σ H => tDrop (tErrI K newId bmB (tCons (tVar 0) (tCons (tVar 1) tNil))) { D with nx := fun σ' H' => tErrS K newId bmB f (tVar 0) (tVar 1) D σ' H' } σ H)) :
    FnOk P w K mg base (L2.CX P w) 1 fI fd ["self", p] (spIni1 K newId bmB f) := by
  refine F.okX S' (fun vs H Q E h => by obtain ⟨_, _, _, rfl, _⟩ := h; rfl) fun cdv A outer s H vs Q E hr h => ⟨_, hbody cdv A outer s H E hr, ?_⟩
  obtain ⟨a, C, y, rfl, T, no, e, q⟩ := h
  refine ⟨.ref a, rfl, y, rfl, a, C, [y], rfl, Nat.le_add_left 1 999, T, e, ?_⟩
  exact ⟨y, rfl, .ref a, rfl, a, C, rfl, T, no, e, fun p hp hpa => q p hp hpa⟩
theorem okIni0 (F : Fun K x qual st fI fd) (S' : FnScope ["self"] ["self"] (defScope st))
    (hbody : ∀ (cdv : Value) (A : Around) (outer : List Env) (s : Shared) (H : Hp) (E : XK), Room 0 (A.deeper (envOfC qual (defScope st) s.heap.objs.size fI cdv)) →
      PSs (cxOf (L2.CX P w) P w K mg base ["self"] qual (defScope st) fI cdv A outer s H E) (defBody st) (tDrop (tErrI K newId bmB (tCons (tVar 0) tNil)))) :
    FnOk P w K mg base (L2.CX P w) 1 fI fd ["self"] (spIni0 K newId bmB) := by
  refine F.okX S' (fun vs H Q E h => by obtain ⟨_, _, rfl, _⟩ := h; rfl) fun cdv A outer s H vs Q E hr h => ⟨_, hbody cdv A outer s H E hr, ?_⟩
  obtain ⟨a, C, rfl, T, e, q⟩ := h
  exact ⟨.ref a, rfl, a, C, [], rfl, by decide, T, e, q⟩
end
/-- raise: the class by its number, what it is handed -/
def mRaise1 (c : Nat) (m : M) : MS := fun st => bindS (m st) fun d st1 => .er c [d] st1
def mRaise0 (c : Nat) : MS := fun st => .er c [] st
section
variable {X : Cx} {g : G} {E : XK} {x f : Str} {c k : Nat} {fI : Addr} {fd : FuncData} {ps : List Str} {B newId initId : String} {bmB : List Value} {e : Expr} {p pos pos' : Pos} {m : M}
theorem err_heap {H1 : Hp} {a p : Addr} {E1 E2 D : HO} {o : HO} (ha : H1 a = none) (hpa : p ≠ a) : upd (del (upd (upd (upd H1 a E1) p D) a E2) a) p o = upd H1 p o := by
  funext b
  by_cases hb : b = p
  · rw [hb, upd_same, upd_same]
  · rw [upd_ne hb, upd_ne hb]
    by_cases hba : b = a
    · rw [hba, del_same, ha]
    · rw [del_ne hba, upd_ne hba, upd_ne hb, upd_ne hba]
theorem ps_mRaise1 (hc : X.calm = true) (hk : X.K = g.K) (tk : Takes X (fun cls d _ H => E cls d H)) (BC : BaseC B newId initId bmB) (T : ErrC g.K (g.C c) newId bmB) (iC : PySem.W.findIn g.K (.ref (g.C c)) "__init__" = some (some (.ref fI))) (tI : PySem.W.typeIn g.K (.ref fI) = some (.type "function"))
    (F1 : FnOk X.prog X.w X.K X.mg X.base (L2.CX X.prog X.w) k fI fd ps (spIni1 g.K newId bmB f)) (hr : Room (k + 1) X.A) (hb : Binds X.K fd ps []) (hg : Gl X x) (hm : X.mg x = some (.ref (g.C c))) (hno : PySem.W.findIn g.K (.ref (g.C c)) f = some none) (hf : g.fld c = [f])
    (ha : PE X e (tM g (erOf g E) m)) (hdb : (x == ("__debug__" : Str)) = false := by decide) (he : starEach [e] X.env = (false, eval e X.env) :: starEach [] X.env := by rfl) (hpl : (backTo pos' (starEach ([] : List Expr) X.env)).any (·.1) = false := by rfl) :
    PS X (.Raise (some (.Call (.Name x p) [e] [] pos')) none pos) (tMS g (erOf g E) (mRaise1 c m)) := by
  refine PSi (ps_raise hc tk (pmk_err BC (by rw [hk]; exact T) (by rw [hk]; exact iC) (by rw [hk]; exact tI) F1 hr hb passF hg hm (pa_cons ha pa_nil he) hdb he hpl)) fun D σ H h => ?_
  obtain ⟨ρ, st, s, h⟩ := h
  refine ⟨ρ, st, s, (OutS.bind h).mono fun d st1 ρ1 H1 _ h1 s1 v rv => ⟨Nat.le_add_left 1 999, fun a ha => ?_⟩⟩
  refine ⟨a, g.C c, v, rfl, T, hno, upd_same, fun q hq hqa => ⟨rfl, .inr ⟨q, [(f, v)], upd_same, by rw [upd_ne hqa, upd_same], ?_, ?_⟩⟩⟩
  · rw [upd_ne hqa] at hq; exact hq
  · rw [upd_ne hqa] at hq
    rw [err_heap ha hqa]
    exact h1 ρ1 _ (Ext.new s1 hq) _ _ (s1.new hq).toCells ⟨rfl, .inr ⟨q, f, v, d, rfl, upd_same, hf, rfl, rv.go (Ext.new s1 hq), s1.nvol hq⟩⟩
theorem ps_mRaise0 (hc : X.calm = true) (hk : X.K = g.K) (tk : Takes X (fun cls d _ H => E cls d H)) (BC : BaseC B newId initId bmB) (T : ErrC g.K (g.C c) newId bmB) (iC : PySem.W.findIn g.K (.ref (g.C c)) "__init__" = some (some (.ref fI))) (tI : PySem.W.typeIn g.K (.ref fI) = some (.type "function"))
    (F1 : FnOk X.prog X.w X.K X.mg X.base (L2.CX X.prog X.w) k fI fd ps (spIni0 g.K newId bmB)) (hr : Room (k + 1) X.A) (hb : Binds X.K fd ps []) (hg : Gl X x) (hm : X.mg x = some (.ref (g.C c))) (hf : g.fld c = [])
    (hdb : (x == ("__debug__" : Str)) = false := by decide) :
    PS X (.Raise (some (.Call (.Name x p) [] [] pos')) none pos) (tMS g (erOf g E) (mRaise0 c)) := by
  refine PSi (ps_raise hc tk (pmk_err0 BC (by rw [hk]; exact T) (by rw [hk]; exact iC) (by rw [hk]; exact tI) F1 hr hb passF hg hm hdb)) fun D σ H h => ?_
  obtain ⟨ρ, st, s, h⟩ := h
  refine ⟨Nat.zero_le _, fun a ha => ⟨a, g.C c, rfl, T, upd_same, rfl, .inl ⟨upd_same, ?_⟩⟩⟩
  have e : del (upd H a (exo a (g.C c) none)) a = H := by
    funext b
    by_cases hba : b = a
    · rw [hba, del_same, ha]
    · rw [del_ne hba, upd_ne hba]
  rw [e]
  exact h ρ H Ext.refl _ _ s.toCells ⟨rfl, .inl ⟨hf, rfl, rfl⟩⟩
end
end RE
set_option maxHeartbeats 4000000
namespace RE
open PySem PySem.Spec PyProof.Rows L2
/-- a clause: the class by its number, the slot of its name, what it stores, by the error's fields -/
abbrev HC := Nat × Option Nat × (List D → M)
/-- a suite's expression, within the clause that has caught the error at a -/
def tSu (g : G) (io : Option Nat) (a : Addr) (cls : Value) (d : Option Addr) (c : Nat) (k : List D → M) : TE := fun σ H Q => ∃ vs ρ st, Sim g ρ σ H st ∧ (∀ ie, io = some ie → σ[ie]? = some (some (.ref a))) ∧ ErrIs g (Vol ρ st) H c vs cls d ∧
  OutC erNo ρ st H (k vs st) fun x st' ρ' H' => Sim g ρ' σ H' st' → ∀ v, Rp g (Vol ρ' st') H' v x → Q v H'
def tSuA (g : G) (io : Option Nat) (a : Addr) (cls : Value) (d : Option Addr) (c : Nat) (k : List D → MA) : TA := fun σ H Q => ∃ vs ρ st, Sim g ρ σ H st ∧ (∀ ie, io = some ie → σ[ie]? = some (some (.ref a))) ∧ ErrIs g (Vol ρ st) H c vs cls d ∧
  OutC erNo ρ st H (k vs st) fun x st' ρ' H' => Sim g ρ' σ H' st' → ∀ v, RpA g (Vol ρ' st') H' v x → Q v H'
/-- the body's expression, its errors by the clauses' wish -/
def tMW (g : G) (W : WX) (m : M) : TE := fun σ H Q => tM g (erOf g fun cls d H' => W cls d σ H') m σ H Q
def pick : List HC → Nat → Option (Option Nat × (List D → M))
  | [], _ => none
  | (c, r) :: hs, d => if d = c then some r else pick hs d
def noSl (st : S) : Option Nat → S
  | none => st
  | some ie => ⟨st.sl.set ie .no, st.ce⟩
def mTry (nc i : Nat) (m : M) (hs : List HC) : MS := fun st => match m st with
  | .ok d st1 => .nx (st1.put i (.d d))
  | .er c vs st1 => if (decide (c < nc) && hs.all fun h => match h.2.1 with | some ie => decide (ie < st.sl.length) | none => true) = true then (match pick hs c with
    | some (io, k) => (match k vs (noSl (st.with st1.ce) io) with
      | .ok d st3 => .nx (noSl (st3.put i (.d d)) io)
      | _ => .no)
    | none => .er c vs (st.with st1.ce)) else .no
  | .no => .no
def clOf (g : G) (i : Nat) (h : HC) : Clause := ⟨.ref (g.C h.1), h.2.1, fun a cls d => tAsg (tSu g h.2.1 a cls d h.1 h.2.2) (gName i)⟩
theorem ErrIs.go {g : G} {ρ ρ' : Rh} {st st' : S} {H H' : Hp} {c : Nat} {vs : List D} {cls : Value} {d : Option Addr} (x : ErrIs g (Vol ρ st) H c vs cls d) (e : Ext ρ st H ρ' st' H') : ErrIs g (Vol ρ' st') H' c vs cls d := by
  obtain ⟨q1, q2⟩ := x
  refine ⟨q1, q2.imp id fun ⟨dd, nm, y, v, z1, z2, z3, z4, z5, z6⟩ => ?_⟩
  obtain ⟨k1, k2⟩ := e.keep dd _ z2 z6
  exact ⟨dd, nm, y, v, z1, k1, z3, z4, z5.go e, k2⟩
theorem ErrIs.ce {g : G} {ρ : Rh} {st st' : S} {H : Hp} {c : Nat} {vs : List D} {cls : Value} {d : Option Addr} (x : ErrIs g (Vol ρ st) H c vs cls d) (e : st'.ce = st.ce) : ErrIs g (Vol ρ st') H c vs cls d := by
  obtain ⟨q1, q2⟩ := x
  have k : ∀ a o, H a = some o → ¬ Vol ρ st a → H a = some o ∧ ¬ Vol ρ st' a := fun a o h n => ⟨h, fun v => n ((Vol.ce e a).mp v)⟩
  refine ⟨q1, q2.imp id fun ⟨dd, nm, y, v, z1, z2, z3, z4, z5, z6⟩ => ⟨dd, nm, y, v, z1, z2, z3, z4, z5.ext k, (k dd _ z2 z6).2⟩⟩
section
variable {X : Cx} {g : G} {E : XK} {i nc : Nat} {m : M} {body : List Stmt} {h0 : ExceptHandler} {hds : List ExceptHandler} {pos : Pos} {hs : List HC}
theorem Sim.noSl {ρ : Rh} {σ : L2.St} {H : Hp} {st : S} {a : Addr} {ie : Nat} (s : Sim g ρ σ H st) : Sim g ρ (σ.set ie (some (.ref a))) H (RE.noSl st (some ie)) := s.put ie (v := .ref a) (sl := .no) trivial
theorem try_go {Dn : Ends} {σ : L2.St} {ρ1 : Rh} {H1 : Hp} {st1 : S} {c : Nat} {vs : List D} {cls : Value} {d : Option Addr} (hk : X.K = g.K) (sb : Sim g ρ1 σ H1 st1) (ei : ErrIs g (Vol ρ1 st1) H1 c vs cls d) : ∀ hs : List HC,
    (∀ h ∈ hs, PySem.W.exmOne g.K (.ref (g.C c)) (.ref (g.C h.1)) = some (decide (c = h.1))) →
    (∀ h ∈ hs, ∀ ie, h.2.1 = some ie → ie < σ.length) →
    (match pick hs c with
      | some (io, k) => (match k vs (RE.noSl st1 io) with
        | .ok x st3 => ∀ ρ' σ' H', Ext ρ1 st1 H1 ρ' (RE.noSl (st3.put i (.d x)) io) H' → Sim g ρ' σ' H' (RE.noSl (st3.put i (.d x)) io) → Dn.nx σ' H'
        | _ => False)
      | none => E cls d H1) → wCl X.K (fun cls d _ H => E cls d H) Dn (hs.map (clOf g i)) cls d σ H1 := by
  intro hs
  induction hs with
  | nil => intro _ _ h; exact h
  | cons h hs ih =>
    intro hex hie w
    obtain ⟨cj, io, k⟩ := h
    have ec : cls = .ref (g.C c) := ei.1
    refine ⟨decide (c = cj), by rw [hk, ec]; exact hex _ List.mem_cons_self, fun hb a ha => ?_, fun hb => ?_⟩
    · have e : c = cj := of_decide_eq_true hb
      have w' := w
      unfold pick at w'
      rw [if_pos e] at w'
      have w' : (match k vs (RE.noSl st1 io) with
        | .ok x st3 => ∀ ρ' σ' H', Ext ρ1 st1 H1 ρ' (RE.noSl (st3.put i (.d x)) io) H' → Sim g ρ' σ' H' (RE.noSl (st3.put i (.d x)) io) → Dn.nx σ' H'
        | _ => False) := w'
      subst e
      cases io with
      | none =>
        show tSu g none a cls d c k σ H1 fun x H' => Dn.nx (σ.set i (some x)) H'
        refine ⟨vs, ρ1, st1, sb, (by intro _ z; cases z), ei, ?_⟩
        have w' : (match k vs st1 with
          | .ok x st3 => ∀ ρ' σ' H', Ext ρ1 st1 H1 ρ' (st3.put i (.d x)) H' → Sim g ρ' σ' H' (st3.put i (.d x)) → Dn.nx σ' H'
          | _ => False) := w'
        cases ek : k vs st1 with
        | ok x st3 =>
          simp only [ek] at w'
          intro ρ' H' x' s' v rv
          exact w' ρ' _ H' (x'.trans (Ext.put i _)) (s'.put i ⟨v, rfl, rv⟩)
        | er _ _ _ => simp only [ek] at w'
        | no => simp only [ek] at w'
      | some ie =>
        show tSu g (some ie) a cls d c k (σ.set ie (some (.ref a))) H1 fun x H' => Dn.nx (((σ.set ie (some (.ref a))).set i (some x)).set ie none) H'
        have sn := Sim.noSl (a := a) (ie := ie) sb
        have hl : ie < σ.length := hie _ List.mem_cons_self ie rfl
        refine ⟨vs, ρ1, _, sn, fun e z => ?_, ei.ce rfl, ?_⟩
        · cases Option.some.inj z
          rw [List.getElem?_set_self hl]
        · cases ek : k vs (RE.noSl st1 (some ie)) with
          | ok x st3 =>
            simp only [ek] at w'
            intro ρ' H' x' s' v rv
            refine w' ρ' _ H' ?_ ((s'.put i (sl := .d x) ⟨v, rfl, rv⟩).setNo ie)
            exact ⟨fun b o h n => x'.keep b o h n, x'.pre, x'.same, x'.un, fun b v => x'.more b v, x'.mono⟩
          | er _ _ _ => simp only [ek] at w'
          | no => simp only [ek] at w'
    · have e : ¬ c = cj := of_decide_eq_false hb
      have w' := w
      unfold pick at w'
      rw [if_neg e] at w'
      exact ih (fun h hh => hex h (List.mem_cons_of_mem _ hh)) (fun h hh => hie h (List.mem_cons_of_mem _ hh)) w'
theorem ps_mTry (hk : X.K = g.K) (hst : X.stack = X.env :: X.outer) (hf : X.env.frame = some X.env.locals) (hN : X.N.Nodup) (tk : Takes X (fun cls d _ H => E cls d H))
    (hex : ∀ c, c < nc → ∀ h ∈ hs, PySem.W.exmOne g.K (.ref (g.C c)) (.ref (g.C h.1)) = some (decide (c = h.1)))
    (bd : ∀ (W : WX) (pn : List (Addr × Obj)) (xe : Value → Shared → Prop), Takes (X.tr pn xe) W → PassesOwn (model X.prog X.w) X.A X.env xe → PSs (X.tr pn xe) body (tAsg (tMW g W m) (gName i)))
    (hc : Cls X (h0 :: hds) (hs.map (clOf g i))) : PS X (.Try body (h0 :: hds) [] [] pos) (tMS g (erOf g E) (mTry nc i m hs)) := by
  refine PSi (ps_try_cl hst hf hN tk bd hc) fun Dn σ H h => ?_
  obtain ⟨ρ, st, s, h⟩ := h
  refine ⟨ρ, st, s, ?_⟩
  cases em : m st with
  | ok d st1 =>
    simp only [mTry, em] at h
    intro ρ1 H1 x1 s1 v rv
    exact h ρ1 _ H1 (x1.trans (Ext.put i _)) (s1.put i ⟨v, rfl, rv⟩)
  | no => simp only [mTry, em] at h; exact h.elim
  | er c vs st1 =>
    simp only [mTry, em] at h
    by_cases hz : (decide (c < nc) && hs.all fun h => match h.2.1 with | some ie => decide (ie < st.sl.length) | none => true) = true
    case neg => rw [if_neg hz] at h; exact h.elim
    rw [if_pos hz] at h
    obtain ⟨z1, z2⟩ := Bool.and_eq_true_iff.mp hz
    intro ρ1 H1 x1 cls d cc ei
    have sb := s.back x1 cc
    have xb : Ext ρ st H ρ1 (st.with st1.ce) H1 := ⟨x1.keep, x1.pre, x1.same, x1.un, x1.more, x1.mono⟩
    refine try_go (st1 := st.with st1.ce) (vs := vs) (c := c) hk sb (ei.ce rfl) hs (fun h hh => hex c (of_decide_eq_true z1) h hh) (fun h hh ie e => ?_) ?_
    · have q := List.all_eq_true.mp z2 h hh
      rw [e] at q
      rw [s.len]
      exact of_decide_eq_true q
    · cases ep : pick hs c with
      | none =>
        simp only [ep] at h
        exact h ρ1 H1 xb cls d sb.toCells (ei.ce rfl)
      | some r =>
        obtain ⟨io, k⟩ := r
        simp only [ep] at h
        cases ek : k vs (RE.noSl (st.with st1.ce) io) with
        | ok x st3 =>
          simp only [ek] at h
          simp only [ek]
          exact fun ρ' σ' H' x' s' => h ρ' σ' H' (xb.trans x') s'
        | er _ _ _ => simp only [ek] at h; exact h.elim
        | no => simp only [ek] at h; exact h.elim
end
end RE
set_option maxHeartbeats 4000000
namespace RE
open PySem PySem.Spec PyProof.Rows L2
/-- what an own error's class must say, so that its instances can be asked -/
structure SuC (K : PySem.W.Frag) (C : Addr) : Prop where
  cl : (PySem.W.clsIn K C).isSome = true
  xf : XfC K C
  kc : PySem.W.findIn K (.ref C) "__class__" = some (some (.builtin "object.__class__"))
  gt : PySem.W.specialIn K (.builtin "object.__class__") "__get__" = some (some (.builtin "getset_descriptor.__get__"))
  tk : PySem.W.takesIn K (.builtin "object.__class__") = some true
  mr : PySem.W.mroIn K C (.type "object") = some true
section
variable {X : Cx} {a : Addr} {oe : Obj} {cls : Value} {d : Option Addr} {pn : List (Addr × Obj)} {g : G} {io : Option Nat} {c : Nat} {pos : Pos}
/-- isinstance(e, T), e the error that the suite holds -/
def rIsS (K : PySem.W.Frag) (a : Addr) (cls : Value) (d : Option Addr) : List V → Hp → VK → Prop := fun xs H Q => ∃ (C : Addr) (t : V) (cv : Value) (b : Bool), xs = [.ref a, t] ∧ cls = .ref C ∧ SuC K C ∧ (d = none ∨ ∃ dd fs, d = some dd ∧ H dd = some (.xd fs)) ∧
  (∀ u, RelV t u → u = cv) ∧ PySem.W.kitOne K (.ref C) cv = some b ∧ Q (.bl b) H
theorem call_isS (hz : Zc cls d oe) (hf : ∃ vs, oe.data = .fields vs) : CallR (X.suite a ((a, oe) :: pn)) (.builtin "isinstance") (rIsS X.K a cls d) := by
  intro pq s σ H xs us Q In r h
  obtain ⟨C, t, cv, b, rfl, rfl, T, hd, ht, e, q⟩ := h
  cases r with
  | cons rx rr =>
    cases rr with
    | cons rt rr =>
      cases rr
      cases rx
      have ec := ht _ rt
      subst ec
      obtain ⟨hget, _⟩ := In.pin (a, oe) (List.mem_append_left _ List.mem_cons_self)
      obtain ⟨vs, hv⟩ := hf
      have inst : ∃ od, PySem.W.InstAt s.heap a oe C od := by
        rcases hd with hd | ⟨dd, fs, hd, hx⟩
        · exact ⟨none, hget, hz.1, by unfold PySem.W.notCls; rw [hv] <;> rfl, by rw [hz.2, hd]; trivial⟩
        · obtain ⟨mA, hns, _⟩ := (show ObjOk X.prog X.w H s.heap dd (.xd fs) from In.hok dd _ hx)
          obtain ⟨od, ho, _⟩ := lookIn_ns hns
          exact ⟨some od, hget, hz.1, by unfold PySem.W.notCls; rw [hv] <;> rfl, by rw [hz.2, hd]; exact ho⟩
      obtain ⟨od, J⟩ := inst
      exact PySem.W.kia_one (PySem.W.kitx_exc T.cl T.xf.ga T.xf.gg T.xf.exC T.kc T.gt T.tk T.mr) In.kIn J e (fun z => nomatch z) fun tk => ⟨.bl b, H, In.kept (t' := tk) fun _ _ z => z, rfl, q⟩
theorem pe_suIsa {b : Expr} {t : String} {k : Bool} {ie : Nat} {n : Str} {p p1 : Pos} (hk : X.K = g.K) (T : SuC g.K (g.C c)) (kit : PySem.W.kitOne g.K (.ref (g.C c)) (.type t) = some k) (hz : Zc cls d oe) (hf : ∃ vs, oe.data = .fields vs)
    (hv : PE (X.suite a ((a, oe) :: pn)) (.Name n p1) (tVar ie)) (hb : PE (X.suite a ((a, oe) :: pn)) b (tC (.ty t))) (hg : Gl (X.suite a ((a, oe) :: pn)) "isinstance") (hm : X.mg "isinstance" = none)
    (he : starEach [.Name n p1, b] X.env = (false, eval (.Name n p1) X.env) :: starEach [b] X.env := by rfl) (he2 : starEach [b] X.env = (false, eval b X.env) :: starEach [] X.env := by rfl) (hpl : (backTo pos (starEach [b] X.env)).any (·.1) = false := by rfl) :
    PE (X.suite a ((a, oe) :: pn)) (.Call (.Name "isinstance" p) [.Name n p1, b] [] pos) (tSu g (some ie) a cls d c fun _ => mC (.bl k)) := by
  refine PEi (pe_callB (call_isS hz hf) hg hm (by decide +kernel) (pa_cons hv (pa_cons hb pa_nil he2) he) (he := he) (hpl := hpl)) fun σ H Q h => ?_
  obtain ⟨vs, ρ, st, s, hs, ei, h⟩ := h
  refine ⟨.ref a, hs ie rfl, g.C c, .ty t, .type t, k, rfl, ei.1, by rw [hk]; exact T, ?_, fun u r => r, by rw [hk]; exact kit, h ρ H Ext.refl s _ (.bl k)⟩
  rcases ei.2 with ⟨_, _, z⟩ | ⟨dd, nm, y, v, z1, z2, _⟩
  · exact .inl z
  · exact .inr ⟨dd, _, z1, z2⟩
/-- e.f -/
def fld1 (vs : List D) : M := fun st => match vs with
  | [x] => .ok x st
  | _ => .no
theorem pe_suFld {e : Expr} {f : Str} {ie : Nat} (hk : X.K = g.K) (T : SuC g.K (g.C c)) (hno : PySem.W.findIn g.K (.ref (g.C c)) f = some none) (hf1 : g.fld c = [f]) (hz : Zc cls d oe) (hf : ∃ vs, oe.data = .fields vs) (hv : PE (X.suite a ((a, oe) :: pn)) e (tVar ie))
    (hb : attributeBase e f X.env (eval e X.env) = eval e X.env := by rfl) : PE (X.suite a ((a, oe) :: pn)) (.Attribute e f pos) (tSu g (some ie) a cls d c fld1) := by
  refine PEi (pe_xf (C := g.C c) (by rw [hk]; exact T.xf) (by rw [hk]; exact hno) hz hf hv hb) fun σ H Q h => ?_
  obtain ⟨vs, ρ, st, s, hs, ei, h⟩ := h
  refine ⟨.ref a, hs ie rfl, rfl, ei.1, ?_⟩
  rcases ei.2 with ⟨z, _, _⟩ | ⟨dd, nm, y, v, z1, z2, z3, z4, z5, _⟩
  · rw [hf1] at z; cases z
  · rw [hf1] at z3
    have en : f = nm := by injection z3
    subst en
    subst z4
    exact ⟨dd, _, y, z1, z2, by simp [List.lookup], h ρ H Ext.refl s y z5⟩
theorem pe_suC {e : Expr} {v : V} {x : D} {Y : Cx} (p : PE Y e (tC v)) (r : ∀ A H, Rp g A H v x) : PE Y e (tSu g io a cls d c fun _ => mC x) := by
  refine PEi p fun σ H Q h => ?_
  obtain ⟨vs, ρ, st, s, hs, ei, h⟩ := h
  exact h ρ H Ext.refl s v (r _ _)
theorem pe_suStr {Y : Cx} {z : Str} {j} : PE Y (.Constant (.str z) j pos) (tSu g io a cls d c fun _ => mC (.str z)) := pe_suC pe_str fun _ _ => .str z
theorem pa_suNil {Y : Cx} : PA Y [] (tSuA g io a cls d c fun _ => mNil) := PAi pa_nil fun σ H Q h => by
  obtain ⟨vs, ρ, st, s, hs, ei, h⟩ := h
  exact h ρ H Ext.refl s [] RpA.nil
theorem pa_suCons {Y : Cx} {e : Expr} {es : List Expr} {k : List D → M} {ks : List D → MA} (ha : PE Y e (tSu g io a cls d c k)) (hr : PA Y es (tSuA g io a cls d c ks)) (hs : starEach (e :: es) Y.env = (false, eval e Y.env) :: starEach es Y.env := by rfl) : PA Y (e :: es) (tSuA g io a cls d c fun vs => mCons (k vs) (ks vs)) := by
  refine PAi (pa_cons ha hr hs) fun σ H Q h => ?_
  obtain ⟨vs, ρ, st, s, hsl, ei, h⟩ := h
  refine ⟨vs, ρ, st, s, hsl, ei, (OutC.bind h).mono fun x st1 ρ1 H1 x1 h1 s1 v rv => ?_⟩
  refine ⟨vs, ρ1, st1, s1, hsl, ei.go x1, (OutC.bind h1).mono fun xs st2 ρ2 H2 x2 h2 s2 us rs => ?_⟩
  exact h2 ρ2 H2 Ext.refl s2 (v :: us) (RpA.cons (rv.go x2) rs)
theorem pe_suLst {Y : Cx} {es : List Expr} {ks : List D → MA} (h : PA Y es (tSuA g io a cls d c ks)) : PE Y (.List es pos) (tSu g io a cls d c fun vs => mLst (ks vs)) := by
  refine PEi (pe_lst h) fun σ H Q h => ?_
  obtain ⟨vs, ρ, st, s, hsl, ei, h⟩ := h
  refine ⟨vs, ρ, st, s, hsl, ei, (OutC.bind h).mono fun ds st1 ρ1 H1 x1 h1 s1 xs rs => ?_⟩
  by_cases hz : ds.length ≤ 1000
  · rw [if_pos hz] at h1
    refine ⟨by rw [rs.1]; exact Nat.le_trans hz (by decide), fun p hp => ?_⟩
    exact h1 ρ1 _ (Ext.new s1 hp) (s1.new hp) _ (Rp.lst' upd_same (s1.nvol hp) (rs.go (Ext.new s1 hp)))
  · rw [if_neg hz] at h1; exact h1.elim
end
end RE
set_option maxHeartbeats 4000000
namespace RE
open PySem PySem.Spec PyProof.Rows L2
/-- arguments that end well -/
def wellA (ma : MA) (f : List D → S → O D) : M := fun st => match ma st with
  | .ok ds st1 => f ds st1
  | _ => .no
def mCallW (ms : MS) (n : Nat) (ma : MA) : M := wellA ma (runD ms n)
def mCallX (tab : Nat → Option (MS × Nat)) (mc : M) (ma : MA) : M := fun st => match mc st with
  | .ok (.fn j) st1 => (match tab j with
    | some (ms, n) => wellA ma (runD ms n) st1
    | none => .no)
  | _ => .no
section
variable {X : Cx} {g : G} {CX : CXT} {k n np : Nat} {f : Addr} {fd : FuncData} {ps : List Str} {ms : MS} {x : Str} {p pos : Pos} {e : Expr} {es : List Expr} {ma : MA} {σ : L2.St} {ER : EK} {E : XK} {ρ : Rh} {st : S} {H : Hp} {Q : VK}
theorem well_read (hE : ∀ c vs ρ st H cls d, ER c vs ρ st H → Cells g ρ H st → ErrIs g (Vol ρ st) H c vs cls d → E cls d H) (hps : ps.length = np) (hlen : ∀ st xs st', ma st = .ok xs st' → xs.length = np) (s : Sim g ρ σ H st)
    (h : OutC ER ρ st H (wellA ma (runD ms n) st) fun d st' ρ' H' => Sim g ρ' σ H' st' → ∀ v, Rp g (Vol ρ' st') H' v d → Q v H') : tMA g erNo ma σ H fun vs H1 => spF g np n ms vs H1 Q E := by
  refine ⟨ρ, st, s, ?_⟩
  unfold wellA at h
  cases ea : ma st with
  | no => simp only [ea] at h; exact h.elim
  | er c vs st' => simp only [ea] at h; exact h.elim
  | ok xs st1 =>
    simp only [ea] at h
    intro ρ1 H1 x1 s1 vs rs
    have h1 := hlen st xs st1 ea
    have q := call_read (ps := ps) (dfl := []) (dvs := []) (fun _ _ => RpA.nil) (fun vs => by rw [hps]) hE s1 rs (by rw [List.append_nil, rs.1]; exact h1) (by rw [List.append_nil]; exact h.later x1)
    rw [List.append_nil] at q
    exact q
theorem pe_mCallW {W : WX} (F : FnOk X.prog X.w X.K X.mg X.base (L2.CX X.prog X.w) k f fd ps (spF g np n ms)) (hr : Room k X.A) (hg : Gl X x) (hm : X.mg x = some (.ref f)) (hk : PySem.W.keepIn X.K (.ref f) = true) (hb : Binds X.K fd ps []) (tk : Takes X W)
    (ha : PA X (e :: es) (tMA g erNo ma)) (hlen : ∀ st xs st', ma st = .ok xs st' → xs.length = np) (hps : ps.length = np) (hdb : (x == ("__debug__" : Str)) = false := by decide) (he : starEach (e :: es) X.env = (false, eval e X.env) :: starEach es X.env := by rfl) (hpl : (backTo pos (starEach es X.env)).any (·.1) = false := by rfl) :
    PE X (.Call (.Name x p) (e :: es) [] pos) (tMW g W (mCallW ms n ma)) := by
  refine PEi (pe_callS F hr hg hm hk hb (fun σ => passAt tk σ) ha hdb he hpl) fun σ H Q h => ?_
  obtain ⟨ρ, st, s, h⟩ := h
  exact well_read (ps := ps) (E := WE W σ) hE_of hps hlen s h
theorem pe_mCallX {ERs : L2.St → EK} {Es : L2.St → XK} {tab : Nat → Option (MS × Nat)} {ce : Expr} {mc : M} (hF : ∀ j ms n, tab j = some (ms, n) → ∃ fd ps, FnOk X.prog X.w X.K X.mg X.base CX k (g.F j) fd ps (spF g np n ms) ∧ PySem.W.keepIn X.K (.ref (g.F j)) = true ∧ Binds X.K fd ps [] ∧ ps.length = np)
    (hr : Room k X.A) (hc : PE X ce (tM g erNo mc)) (hx : ∀ σ, PassesAt CX X σ (Es σ)) (hE : ∀ σ c vs ρ st H cls d, ERs σ c vs ρ st H → Cells g ρ H st → ErrIs g (Vol ρ st) H c vs cls d → Es σ cls d H)
    (ha : PA X (e :: es) (tMA g erNo ma)) (hlen : ∀ st xs st', ma st = .ok xs st' → xs.length = np)
    (hce : eval (.Call ce (e :: es) [] pos) X.env = (do callWith pos (← eval ce X.env) [] (backTo pos (starEach (e :: es) X.env)) (backToKw pos (keywordEach [] X.env))) := by rfl)
    (hstr : starEach (e :: es) X.env = (false, eval e X.env) :: starEach es X.env := by rfl)
    (hnon : (backTo pos (starEach es X.env)).any (·.1) = false := by rfl) :
    PE X (.Call ce (e :: es) [] pos) (fun σ H Q => tM g (ERs σ) (mCallX tab mc ma) σ H Q) := by
  refine ⟨fun pq s σ H Q In h => ?_⟩
  obtain ⟨ρ, st, sm, h⟩ := h
  rw [hce]
  refine wpAny_bind (thn (hc.run pq s σ H (fun v H1 => ∃ j ms n ρ1 st1, v = .ref (g.F j) ∧ tab j = some (ms, n) ∧ Sim g ρ1 σ H1 st1 ∧
    OutC (ERs σ) ρ1 st1 H1 (wellA ma (runD ms n) st1) fun d st' ρ' H' => Sim g ρ' σ H' st' → ∀ v, Rp g (Vol ρ' st') H' v d → Q v H') In ⟨ρ, st, sm, ?_⟩) fun u s1 h1 => ?_)
  · unfold mCallX at h
    cases e1 : mc st with
    | no => simp only [e1] at h; exact h.elim
    | er c vs st' => simp only [e1] at h; exact h.elim
    | ok y st1 =>
      cases y with
      | fn j =>
        cases e2 : tab j with
        | none => simp only [e1, e2] at h; exact h.elim
        | some r =>
          obtain ⟨ms, n⟩ := r
          simp only [e1, e2] at h
          exact fun ρ1 H1 x1 s1 v rv => ⟨j, ms, n, ρ1, st1, rv.inv_fn, e2, s1, h.later x1⟩
      | _ => simp only [e1] at h; exact h.elim
  · obtain ⟨v, H1, I1, r1, j, ms, n, ρ1, st1, rfl, e2, s1', h1⟩ := h1
    obtain rfl : u = Value.ref (g.F j) := r1
    obtain ⟨fd, ps, F, kp, hb, hps⟩ := hF j ms n e2
    refine PySem.W.callWith_K (h₀ := X.base) I1.ok.mod.kin kp (thn (ha.run pos pq s1 σ H1 _ I1 (well_read (ps := ps) (E := Es σ) (hE σ) hps hlen s1' h1)) fun us s2 h2 => ?_) hstr hnon
    obtain ⟨vs, H2, I2, r, q⟩ := h2
    exact ⟨I2.kIn, run_fnS F hr hb (hx σ) I2 r q⟩
theorem passAtE {E : XK} (tk : Takes X (fun cls d _ H => E cls d H)) : ∀ σ, PassesAt (L2.CX X.prog X.w) X σ E := fun σ => passAt tk σ
end
end RE
set_option maxHeartbeats 4000000
namespace RE
open PySem PySem.Spec PyProof.Rows L2
section
variable {X : Cx} {g : G} {k np : Nat} {pos : Pos} {e : Expr} {es : List Expr} {ma : MA} {tab : Nat → Option (MS × Nat)} {ce : Expr} {mc : M}
theorem pe_mCallXW {W : WX} (hF : ∀ j ms n, tab j = some (ms, n) → ∃ fd ps, FnOk X.prog X.w X.K X.mg X.base (L2.CX X.prog X.w) k (g.F j) fd ps (spF g np n ms) ∧ PySem.W.keepIn X.K (.ref (g.F j)) = true ∧ Binds X.K fd ps [] ∧ ps.length = np)
    (hr : Room k X.A) (hc : PE X ce (tM g erNo mc)) (tk : Takes X W) (ha : PA X (e :: es) (tMA g erNo ma)) (hlen : ∀ st xs st', ma st = .ok xs st' → xs.length = np)
    (hce : eval (.Call ce (e :: es) [] pos) X.env = (do callWith pos (← eval ce X.env) [] (backTo pos (starEach (e :: es) X.env)) (backToKw pos (keywordEach [] X.env))) := by rfl)
    (he : starEach (e :: es) X.env = (false, eval e X.env) :: starEach es X.env := by rfl) (hpl : (backTo pos (starEach es X.env)).any (·.1) = false := by rfl) : PE X (.Call ce (e :: es) [] pos) (tMW g W (mCallX tab mc ma)) :=
  pe_mCallX (ERs := fun σ => erOf g fun cls d H' => W cls d σ H') (Es := WE W) hF hr hc (fun σ => passAt tk σ) (fun σ => hE_of) ha hlen hce he hpl
theorem pe_mCallXE {E : XK} (hF : ∀ j ms n, tab j = some (ms, n) → ∃ fd ps, FnOk X.prog X.w X.K X.mg X.base (L2.CX X.prog X.w) k (g.F j) fd ps (spF g np n ms) ∧ PySem.W.keepIn X.K (.ref (g.F j)) = true ∧ Binds X.K fd ps [] ∧ ps.length = np)
    (hr : Room k X.A) (hc : PE X ce (tM g erNo mc)) (tk : Takes X (fun cls d _ H => E cls d H)) (ha : PA X (e :: es) (tMA g erNo ma)) (hlen : ∀ st xs st', ma st = .ok xs st' → xs.length = np)
    (hce : eval (.Call ce (e :: es) [] pos) X.env = (do callWith pos (← eval ce X.env) [] (backTo pos (starEach (e :: es) X.env)) (backToKw pos (keywordEach [] X.env))) := by rfl)
    (he : starEach (e :: es) X.env = (false, eval e X.env) :: starEach es X.env := by rfl) (hpl : (backTo pos (starEach es X.env)).any (·.1) = false := by rfl) : PE X (.Call ce (e :: es) [] pos) (tM g (erOf g E) (mCallX tab mc ma)) :=
  pe_mCallX (ERs := fun _ => erOf g E) (Es := fun _ => E) hF hr hc (passAtE tk) (fun σ => hE_of) ha hlen hce he hpl
end
section
variable {X : Cx} {g : G} {i c : Nat} {x n : Str} {np p : Pos} {b0 : Stmt} {suite : List Stmt} {hds : List ExceptHandler} {hs : List HC} {k : List D → M}
theorem cls_nil : Cls X [] (([] : List HC).map (clOf g i)) := .nil
theorem cls_as {ie : Nat} (hc : Names X x (.ref (g.C c))) (hi : X.N[ie]? = some n) (hln : X.env.kindOf n = some .local)
    (hsu : ∀ (a : Addr) (oe : Obj) (cls : Value) (d : Option Addr) (pn : List (Addr × Obj)), Zc cls d oe → (∃ vs, oe.data = .fields vs) → PSs (X.suite a ((a, oe) :: pn)) (b0 :: suite) (tAsg (tSu g (some ie) a cls d c k) (gName i)))
    (r : Cls X hds (hs.map (clOf g i))) : Cls X (.ExceptHandler (some (.Name x np)) (some n) (b0 :: suite) p :: hds) (((c, some ie, k) :: hs).map (clOf g i)) := .as hc hi hln hsu r
theorem cls_bare (hc : Names X x (.ref (g.C c)))
    (hsu : ∀ (a : Addr) (oe : Obj) (cls : Value) (d : Option Addr) (pn : List (Addr × Obj)), Zc cls d oe → (∃ vs, oe.data = .fields vs) → PSs (X.suite a ((a, oe) :: pn)) (b0 :: suite) (tAsg (tSu g none a cls d c k) (gName i)))
    (r : Cls X hds (hs.map (clOf g i))) : Cls X (.ExceptHandler (some (.Name x np)) none (b0 :: suite) p :: hds) (((c, none, k) :: hs).map (clOf g i)) := .bare hc hsu r
theorem exm_of {nc : Nat} (H : ∀ c, c < nc → ∀ d, d < nc → PySem.W.exmOne g.K (.ref (g.C c)) (.ref (g.C d)) = some (decide (c = d))) (hl : (hs.all fun h => decide (h.1 < nc)) = true) :
    ∀ c, c < nc → ∀ h ∈ hs, PySem.W.exmOne g.K (.ref (g.C c)) (.ref (g.C h.1)) = some (decide (c = h.1)) := fun c hc h hh => H c hc h.1 (of_decide_eq_true (List.all_eq_true.mp hl h hh))
end
end RE
set_option maxHeartbeats 4000000
namespace RE
open PySem PySem.Spec PyProof.Rows L2
section
variable {P : Program} {w : World} {base : Heap} {K : PySem.W.Frag} {mg : Str → Option Value}
theorem okFD {g : G} {x qual : Str} {pa : Arguments} {bd : List Stmt} {sc : Scope} {dvs : List V} {kws : List (Str × V)} {f : Addr} {fd : FuncData} {N ps : List Str} {k np n : Nat} {ms : MS} (F : FunD K x qual pa bd sc dvs kws f fd) (S' : FnScope N ps sc) (hp : ps.length = np) (hN : N.length = n) (hpn : np ≤ n)
    (hbody : ∀ (cdv : Value) (A : Around) (outer : List Env) (s : Shared) (H : Hp) (E : XK), Room k (A.deeper (envOfC qual sc s.heap.objs.size f cdv)) →
      PSs (cxOf (L2.CX P w) P w K mg base N qual sc f cdv A outer s H E) bd (tMS g (erOf g E) ms)) : FnOk P w K mg base (L2.CX P w) (k + 1) f fd ps (spF g np n ms) := by
  refine F.ok S' (fun vs H Q E h => by rw [hp]; exact h.1) fun cdv A outer s H vs Q E hr h => ⟨_, hbody cdv A outer s H E hr, ?_⟩
  obtain ⟨hl, ρ, as, ce, ha, sm, ho⟩ := h
  subst hN
  refine ⟨ρ, S.start as N.length ce, sim_start sm (by omega), ?_⟩
  cases e : ms (S.start as N.length ce) with
  | nx st' => rw [e] at ho; exact fun ρ' σ' H' x s' => ho ρ' H' (x.ce rfl) s'.toCells
  | rt d st' => rw [e] at ho; exact fun ρ' σ' H' v x s' r => ho ρ' H' v (x.ce rfl) s'.toCells r
  | bk st' => rw [e] at ho; exact ho.elim
  | ct st' => rw [e] at ho; exact ho.elim
  | er c vs' st' => rw [e] at ho; exact fun ρ' H' x => ho ρ' H' (x.ce rfl)
  | no => rw [e] at ho; exact ho.elim
end
section
variable {X : Cx} {g : G} {ER : EK} {CX : CXT} {k n np : Nat} {f : Addr} {fd : FuncData} {ps : List Str} {ms : MS} {dfl : List D} {dvs : List V} {E : XK} {x : Str} {p pos : Pos} {e : Expr} {es : List Expr} {ma : MA}
theorem pe_mCallD (F : FnOk X.prog X.w X.K X.mg X.base CX k f fd ps (spF g np n ms)) (hr : Room k X.A) (hg : Gl X x) (hm : X.mg x = some (.ref f)) (hk : PySem.W.keepIn X.K (.ref f) = true) (hb : ∃ ds, Vals dvs ds ∧ Binds X.K fd ps ds) (hx : Passes CX X E)
    (hdf : ∀ A H, RpA g A H dvs dfl) (hE : ∀ c vs ρ st H cls d, ER c vs ρ st H → Cells g ρ H st → ErrIs g (Vol ρ st) H c vs cls d → E cls d H) (ha : PA X (e :: es) (tMA g ER ma)) (hlen : ∀ st xs st', ma st = .ok xs st' → xs.length + dfl.length = np) (hps : ps.length = np)
    (hnd : (x == ("__debug__" : Str)) = false := by decide)
    (hstr : starEach (e :: es) X.env = (false, eval e X.env) :: starEach es X.env := by rfl)
    (hnon : (backTo pos (starEach es X.env)).any (·.1) = false := by rfl) :
    PE X (.Call (.Name x p) (e :: es) [] pos) (tM g ER (mCall ms n dfl ma)) := by
  obtain ⟨ds, hd, hb⟩ := hb
  exact pe_mCall F hr hg hm hk hb hd hx hdf hE ha hlen hps hnd hstr hnon
theorem lenDf {m : MA} {n k j : Nat} (h : ∀ st xs st', m st = .ok xs st' → xs.length = n) (e : n + k = j) : ∀ st xs st', m st = .ok xs st' → xs.length + k = j := fun st xs st' q => by rw [h st xs st' q]; exact e
end
end RE
set_option maxHeartbeats 4000000
namespace RE
open PySem PySem.Spec PyProof.Rows L2
/-- those at the places of pm -/
def reo {α : Type} (pm : List Nat) (l : List α) : List α := pm.filterMap fun i => l[i]?
theorem reo_vals {vs : List V} {us : List Value} (r : Vals vs us) : ∀ pm : List Nat, Vals (reo pm vs) (reo pm us)
  | [] => .nil
  | i :: pm => by
    unfold reo
    rw [List.filterMap_cons, List.filterMap_cons]
    cases e : vs[i]? with
    | none =>
      have e2 : us[i]? = none := by
        rw [List.getElem?_eq_none_iff] at e ⊢
        rw [← Paired.length r]; exact e
      rw [e2]
      exact reo_vals r pm
    | some v =>
      obtain ⟨u, hu, ru⟩ := r.get e
      rw [hu]
      exact .cons ru (reo_vals r pm)
theorem reo_rp {g : G} {A : Addr → Prop} {H : Hp} {vs : List V} {ds : List D} (r : RpA g A H vs ds) : ∀ pm : List Nat, RpA g A H (reo pm vs) (reo pm ds)
  | [] => RpA.nil
  | i :: pm => by
    unfold reo
    rw [List.filterMap_cons, List.filterMap_cons]
    cases e : ds[i]? with
    | none =>
      have e2 : vs[i]? = none := by
        rw [List.getElem?_eq_none_iff] at e ⊢
        rw [r.1]; exact e
      rw [e2]
      exact reo_rp r pm
    | some d =>
      obtain ⟨v, hv, rv⟩ := r.get e
      rw [hv]
      exact RpA.cons rv (reo_rp r pm)
/-- such a call binds -/
def KwOk (K : PySem.W.Frag) (fd : FuncData) (ps ks : List Str) (pm : List Nat) : Prop := ∀ (s : Shared) (ws : List Value), K.In s.heap → ws.length = ks.length → BindsTo s fd ⟨[], ks.zip ws⟩ (ps.zip (reo pm ws))
theorem PKi {X : Cx} {kws : List Keyword} {t t' : TA} (p : PK X kws t) (h : ∀ σ H Q, t' σ H Q → t σ H Q) : PK X kws t' := ⟨fun pos pq s σ H Q I q => p.run pos pq s σ H Q I (h _ _ _ q)⟩
def mCallK (ms : MS) (n : Nat) (pm : List Nat) (ma : MA) : M := fun st => bindO (ma st) fun ds st1 => runD ms n (reo pm ds) st1
section
variable {X : Cx} {g : G} {ER : EK} {CX : CXT} {k n np : Nat} {f : Addr} {fd : FuncData} {ps ks : List Str} {ms : MS} {E : XK} {x : Str} {p pos kpos : Pos} {e : Expr} {kws : List Keyword} {ma : MA} {pm : List Nat} {nm : Option Str}
theorem pk_mNil : PK X [] (tMA g ER mNil) := PKi pk_nil fun σ H Q h => by
  obtain ⟨ρ, st, s, h⟩ := h
  exact h ρ H Ext.refl s [] RpA.nil
theorem pk_mCons {m : M} (ha : PE X e (tM g ER m)) (hr : PK X kws (tMA g ER ma)) : PK X (⟨nm, e, kpos⟩ :: kws) (tMA g ER (mCons m ma)) := by
  refine PKi (pk_cons ha hr) fun σ H Q h => ?_
  obtain ⟨ρ, st, s, h⟩ := h
  refine ⟨ρ, st, s, (OutC.bind h).mono fun d st1 ρ1 H1 _ h1 s1 v rv => ?_⟩
  refine ⟨ρ1, st1, s1, (OutC.bind h1).mono fun ds st2 ρ2 H2 x2 h2 s2 vs rs => ?_⟩
  exact h2 ρ2 H2 Ext.refl s2 (v :: vs) (RpA.cons (rv.go x2) rs)
theorem pe_mCallK (F : FnOk X.prog X.w X.K X.mg X.base CX k f fd ps (spF g np n ms)) (hr : Room k X.A) (hg : Gl X x) (hm : X.mg x = some (.ref f)) (hk : PySem.W.keepIn X.K (.ref f) = true) (hb : KwOk X.K fd ps ks pm) (hx : Passes CX X E)
    (hE : ∀ c vs ρ st H cls d, ER c vs ρ st H → Cells g ρ H st → ErrIs g (Vol ρ st) H c vs cls d → E cls d H) (ha : PK X kws (tMA g ER ma)) (hlen : ∀ st xs st', ma st = .ok xs st' → xs.length = ks.length ∧ (reo pm xs).length = np) (hps : ps.length = np)
    (hsome : (backToKw pos (keywordEach kws X.env)).all (·.1.isSome) = true := by rfl)
    (hnames : (backToKw pos (keywordEach kws X.env)).filterMap (·.1) = ks := by rfl) (hnd : (x == ("__debug__" : Str)) = false := by decide)
    (hpl : ((backTo pos (starEach ([] : List Expr) X.env)).any (·.1) || (backToKw pos (keywordEach kws X.env)).any (·.1.isNone)) = false := by rfl) :
    PE X (.Call (.Name x p) [] kws pos) (tM g ER (mCallK ms n pm ma)) := by
  refine ⟨fun pq s σ H Q In h => ?_⟩
  obtain ⟨ρ, st, sm, h⟩ := h
  refine wpAny_Call_Name_kw (ld_glob In hg hm ?_ hnd)
  have hh := OutC.bind h
  have rd : tMA g ER ma σ H fun zs H2 => zs.length = ks.length ∧ spF g np n ms (reo pm zs) H2 Q E := by
    refine ⟨ρ, st, sm, ?_⟩
    cases ea : ma st with
    | no => rw [ea] at hh; exact hh
    | er c vs st' => rw [ea] at hh; exact hh
    | ok xs st1 =>
      rw [ea] at hh
      intro ρ1 H1 x1 s1 vs rs
      obtain ⟨h1, h2⟩ := hlen st xs st1 ea
      have rr := reo_rp rs pm
      refine ⟨rs.1.trans h1, ?_⟩
      have q := call_read (ps := ps) (dfl := []) (dvs := []) (fun _ _ => RpA.nil) (fun vs => by rw [hps]) hE s1 rr (by rw [List.append_nil, rr.1]; exact h2) (by rw [List.append_nil]; exact hh ρ1 H1 x1)
      rw [List.append_nil] at q
      exact q
  refine PySem.W.callWith_KW0 (h₀ := X.base) In.ok.mod.kin hk hsome (thn (ha.run pos pq s σ H _ In rd) fun ws s2 h2 => ?_) hpl
  obtain ⟨zs, H2, I2, rz, l1, q⟩ := h2
  refine ⟨I2.kIn, ?_⟩
  rw [hnames]
  refine wpAny_call (codeAny_mono (F.run X.A X.stack s2 H2 ⟨[], ks.zip ws⟩ (reo pm ws) (reo pm zs) Q E hr I2.env0 (hb s2 ws I2.kIn (rz.length.symm.trans l1)) (reo_vals rz pm) q) fun r s' hq => ?_)
  cases r with
  | error e => exact hx pq σ H2 s2 e s' I2 hq
  | ok fl =>
    cases fl with
    | ret u => exact I2.after hq
    | next => exact hq.elim
    | brk => exact hq.elim
    | cont => exact hq.elim
theorem lenK {m : MA} {a b : Nat} {pm : List Nat} (h : ∀ st xs st', m st = .ok xs st' → xs.length = a) (e : ∀ xs : List D, xs.length = a → (reo pm xs).length = b) : ∀ st xs st', m st = .ok xs st' → xs.length = a ∧ (reo pm xs).length = b := fun st xs st' q => ⟨h st xs st' q, e xs (h st xs st' q)⟩
end
end RE
set_option maxHeartbeats 4000000
namespace RE
open PySem PySem.Spec PyProof.Rows L2
def toI : D → Option Int
  | .int i => some i
  | _ => none
theorem toI_all {g : G} {A : Addr → Prop} {H : Hp} : ∀ {ds : List D} {ys : List V} {ns : List Int}, mapO toI ds = some ns → RpA g A H ys ds → ys = ns.map V.int
  | [], ys, ns, e, r => by
    rw [r.cases_nil]
    cases Option.some.inj e
    rfl
  | d :: ds, ys, ns, e, r => by
    obtain ⟨y, ys, rfl, r1, r2⟩ := r.cases_cons
    unfold mapO at e
    cases d with
    | int i =>
      simp only [toI] at e
      cases e2 : mapO toI ds with
      | none => rw [e2] at e; cases e
      | some ns' =>
        rw [e2] at e
        cases Option.some.inj e
        rw [toI_all e2 r2, r1.inv_int]
        rfl
    | _ => simp only [toI] at e; cases e
def maxD : List D → Option D
  | [.lst ds] => match mapO toI ds with
    | some (i :: is) => some (.int (is.foldl max i))
    | _ => none
  | _ => none
def minD : List D → Option D
  | [.lst ds] => match mapO toI ds with
    | some (i :: is) => some (.int (is.foldl min i))
    | _ => none
  | _ => none
theorem foldMax : ∀ (l : List Int) (a : Int), (l.foldl max a = a ∨ l.foldl max a ∈ l) ∧ a ≤ l.foldl max a ∧ ∀ x ∈ l, x ≤ l.foldl max a
  | [], a => ⟨.inl rfl, Int.le_refl a, fun x h => by cases h⟩
  | b :: l, a => by
    obtain ⟨h1, h2, h3⟩ := foldMax l (max a b)
    refine ⟨?_, ?_, fun x hx => ?_⟩
    · rcases h1 with h | h
      · rw [List.foldl_cons, h]
        rcases Int.le_total a b with q | q
        · right; rw [Int.max_eq_right q]; exact List.mem_cons_self
        · left; exact Int.max_eq_left q
      · exact .inr (List.mem_cons_of_mem _ h)
    · exact Int.le_trans (Int.le_max_left a b) h2
    · rcases List.mem_cons.mp hx with rfl | hx
      · exact Int.le_trans (Int.le_max_right a x) h2
      · exact h3 x hx
theorem foldMin : ∀ (l : List Int) (a : Int), (l.foldl min a = a ∨ l.foldl min a ∈ l) ∧ l.foldl min a ≤ a ∧ ∀ x ∈ l, l.foldl min a ≤ x
  | [], a => ⟨.inl rfl, Int.le_refl a, fun x h => by cases h⟩
  | b :: l, a => by
    obtain ⟨h1, h2, h3⟩ := foldMin l (min a b)
    refine ⟨?_, ?_, fun x hx => ?_⟩
    · rcases h1 with h | h
      · rw [List.foldl_cons, h]
        rcases Int.le_total a b with q | q
        · left; exact Int.min_eq_left q
        · right; rw [Int.min_eq_right q]; exact List.mem_cons_self
      · exact .inr (List.mem_cons_of_mem _ h)
    · exact Int.le_trans h2 (Int.min_le_left a b)
    · rcases List.mem_cons.mp hx with rfl | hx
      · exact Int.le_trans h2 (Int.min_le_right a x)
      · exact h3 x hx
theorem rop_max {g : G} : ROpN g (rMax g.K) maxD := by
  intro ρ σ st H xs ds d Q e s rs k
  unfold maxD at e
  split at e
  · rename_i es
    obtain ⟨v, rfl, r⟩ := rs.one
    obtain ⟨a, ys, rfl, ha, _, ra⟩ := r.inv_lst
    split at e
    · rename_i i is ei
      cases Option.some.inj e
      have hy := toI_all ei ra
      subst hy
      refine ⟨a, i :: is, rfl, SqL.of ha, Nat.succ_pos _, fun m hm hl => ?_⟩
      obtain ⟨h1, h2, h3⟩ := foldMax is i
      have e1 : m ≤ is.foldl max i := by
        rcases List.mem_cons.mp hm with rfl | q
        · exact h2
        · exact h3 m q
      have e2 : is.foldl max i ≤ m := hl _ (by
        rcases h1 with q | q
        · rw [q]; exact List.mem_cons_self
        · exact List.mem_cons_of_mem _ q)
      exact k ρ H _ Ext.refl s (by rw [Int.le_antisymm e1 e2]; exact .int _)
    · cases e
  · cases e
theorem rop_min {g : G} : ROpN g (rMin g.K) minD := by
  intro ρ σ st H xs ds d Q e s rs k
  unfold minD at e
  split at e
  · rename_i es
    obtain ⟨v, rfl, r⟩ := rs.one
    obtain ⟨a, ys, rfl, ha, _, ra⟩ := r.inv_lst
    split at e
    · rename_i i is ei
      cases Option.some.inj e
      have hy := toI_all ei ra
      subst hy
      refine ⟨a, i :: is, rfl, SqL.of ha, Nat.succ_pos _, fun m hm hl => ?_⟩
      obtain ⟨h1, h2, h3⟩ := foldMin is i
      have e1 : is.foldl min i ≤ m := by
        rcases List.mem_cons.mp hm with rfl | q
        · exact h2
        · exact h3 m q
      have e2 : m ≤ is.foldl min i := hl _ (by
        rcases h1 with q | q
        · rw [q]; exact List.mem_cons_self
        · exact List.mem_cons_of_mem _ q)
      exact k ρ H _ Ext.refl s (by rw [Int.le_antisymm e2 e1]; exact .int _)
    · cases e
  · cases e
end RE
set_option maxHeartbeats 4000000
namespace RE
open PySem PySem.Spec PyProof.Rows L2
section
variable {s : Shared} {A : Around} {w : World} {P : Program} {E : Value → Shared → Prop}
/-- a new set -/
abbrev ns0 (w : World) : Obj := { cls := .type "set", dict := none, data := .set #[] 0 (.fresh 0 0 (!w.params.followText "set-order")) }
abbrev ns1 (w : World) (h : Heap) : Heap := h.push (ns0 w)
/-- what the fill leaves -/
def Filled (w : World) (s s₂ : Shared) (ns : List Int) : Prop := ∃ h' tk c, s₂ = { s with heap := h', toks := tk } ∧ SetR w h' s.heap.objs.size (fun j => decide (j ∈ ns)) c ∧ c ≤ ns.length ∧ ∀ b o, s.heap.get? b = some o → h'.get? b = some o
set_option maxHeartbeats 3200000 in
theorem set_fill {l : Addr} {items : Array Value} {ns : List Int} (hh : A.handled = none) (hl : s.heap.IsList l items) (hit : IntsAre items.toList ns) (hb : ns.length + 1 < scanBound) :
    wpAny (model P w) A.in1 (Builtin.«set.__init__» ⟨[.ref s.heap.objs.size, .ref l], []⟩)
      (fun fin t => match fin with
        | .done f => wants (fun r s₂ => r = Value.none ∧ Filled w s s₂ ns) E (.ok f) t
        | .again c => c.quiet = true ∧ codeAny (model P w) A c (wants (fun r s₂ => r = Value.none ∧ Filled w s s₂ ns) E) t)
      (fun e t => wants (fun r s₂ => r = Value.none ∧ Filled w s s₂ ns) E (.error e) t) { s with heap := ns1 w s.heap } := by
  have len : items.size = ns.length := by
    rw [← Array.length_toList]; exact IntsAre.length hit
  have hS : (ns1 w s.heap).get? s.heap.objs.size = some (ns0 w) := Heap.get?_push_size _ rfl
  have hT : Shared.TypeIs { s with heap := ns1 w s.heap } (.ref s.heap.objs.size) "set" := ⟨_, hS, rfl⟩
  obtain ⟨⟨oc, od, oda, osl⟩, hol, hcl, nl, hdl⟩ := hl
  simp only at hcl hdl
  subst hcl; subst hdl
  have below : l < s.heap.objs.size := Heap.lt_size hol
  have old : (ns1 w s.heap).get? l = some { cls := .type "list", dict := od, data := .seq items nl, slots := osl } := Heap.get?_push_of_some _ hol
  have q1 := F.sub_list_set
  have q2 := F.sub_list_frozenset
  have q3 : (Value.type "list" == Value.type "dict") = false := by decide
  have isl : (ns1 w s.heap).IsList l items := ⟨_, old, rfl, nl, rfl⟩
  have sz : (ns1 w s.heap).objs.size = s.heap.objs.size + 1 := Heap.size_push ..
  unfold Builtin.«set.__init__» Builtin.Frozenset.updateFrom noKeywords
  generalize hPI : pyIter = PI
  wp_walk
  subst hPI
  refine wpAny_pyIter_list isl ?_
  refine wpAny_bind (wpAny_runValue (?_)) -- the fill
  have off : s.heap.objs.size ∉ [(ns1 w s.heap).objs.size, l] := by
    rw [sz]
    intro z
    rcases List.mem_cons.mp z with z1 | z1
    · exact Nat.ne_of_lt (Nat.lt_succ_self _) z1
    · exact Nat.ne_of_gt below (List.mem_singleton.mp z1)
  refine set_update_ints ((Walks.list (by simp [hh]) _ l (by rw [sz]; exact Nat.ne_of_lt (Nat.lt_succ_of_lt below)) items).toS) s.heap.objs.size off ns len hb (fun i v hv => ?_) (items.size - 0) 0 _ (by omega) (Nat.zero_le _)
    ⟨⟨_, Heap.get?_push_size _ rfl, rfl, rfl⟩, (isl.push _)⟩ ⟨0, Nat.le_refl 0, setR_new_at (Heap.get?_push_of_some _ hS)⟩ fun s' c' hm hc' hS' => ?_
  · have hi : i < ns.length := by rw [← len]; exact (Array.getElem?_eq_some_iff.mp hv).1
    have ⟨tk, e⟩ := hit.int_at i v (Array.getElem?_toList ▸ hv)
    exact ⟨ns[i], tk, List.getElem?_eq_getElem hi, by rw [e, List.getD_eq_getElem?_getD, List.getElem?_eq_getElem hi]; rfl⟩
  · obtain ⟨h', g2, d', tk', os'⟩ := s'
    obtain rfl : g2 = s.gens := hm.gens
    obtain rfl : d' = s.drawn := hm.drawn
    obtain rfl : os' = s.os := hm.os
    show wpAny _ _ _ _ _ _
    refine wpAny_pure ?_
    show wpAny _ _ (ret .none) _ _ _
    refine wpAny_pure ⟨rfl, h', tk', c', rfl, hS', by omega, fun b o e => ?_⟩
    have lb : b < s.heap.objs.size := Heap.lt_size e
    refine hm.heap b o (fun z => ?_) (Heap.get?_push_of_some _ (Heap.get?_push_of_some _ e))
    rw [sz] at z
    rcases List.mem_cons.mp z with z1 | z1
    · exact Nat.ne_of_lt lb z1
    · exact Nat.ne_of_lt (Nat.lt_succ_of_lt lb) (List.mem_singleton.mp z1)
set_option maxHeartbeats 3200000 in
theorem set_list {l : Addr} {items : Array Value} {ns : List Int} {Q : Value → Shared → Prop} (hh : A.handled = none) (hl : s.heap.IsList l items) (hit : IntsAre items.toList ns) (hb : ns.length + 1 < scanBound)
    (h : ∀ s₂, Filled w s s₂ ns → Q (.ref s.heap.objs.size) s₂) : wpAny (model P w) A (call (.type "set") [.ref l]) Q E s := by
  obtain ⟨c, tl, g1⟩ := F.called_set.mro
  have g2 := F.called_set.made
  have g3 := F.called_set.sub
  refine wpAny_call (codeAny_of_tree (show wpAny _ _ (callAny (.type "set") _) _ _ _ from ?_))
  have g0 := Code.quiet_builtin (id := "type.__call__") ⟨[.type "set", .ref l], []⟩ (by decide +kernel)
  refine wpAny_pure ⟨g0, codeAny_builtin F.entry_type_call ?_⟩
  rw [Around.under_plain (weight_type_call_type _ _ _) rfl]
  have g4 := F.called_set.notType
  have g5 := F.called_set.canCreate
  have g6 := F.typeCall_set_1 (.ref l)
  repeat' first | assumption | wp_step
  refine codeAny_mono (code_set_led1 (.ref l) (E := E) (Q₁ := fun o t => o = .ref s.heap.objs.size ∧ t = { s with heap := ns1 w s.heap }) ⟨rfl, rfl⟩) fun r s₁ hr => ?_
  cases r with
  | error e => exact hr
  | ok fl =>
    cases fl with
    | ret o =>
      obtain ⟨rfl, rfl⟩ := hr
      have hS : (ns1 w s.heap).get? s.heap.objs.size = some (ns0 w) := Heap.get?_push_size _ rfl
      have hT : Shared.TypeIs { s with heap := ns1 w s.heap } (.ref s.heap.objs.size) "set" := ⟨_, hS, rfl⟩
      have g7 := F.called_set.init.lookup
      have g8 := F.called_set.init.bind (.ref s.heap.objs.size)
      repeat' first | assumption | wp_step
      refine codeAny_mono (codeAny_call_builtin (R := wants (fun r s₂ => r = Value.none ∧ Filled w s s₂ ns) E) F.called_set.init.plain F.entry_set_init (check_set_init_1 hT (set_fill (by simp [hh]) hl hit hb))) fun r₂ s₂ hr₂ => ?_
      cases r₂ with
      | error e => exact hr₂
      | ok fl₂ =>
        cases fl₂ with
        | ret r =>
          obtain ⟨rfl, hf⟩ := hr₂
          repeat' first | assumption | wp_step
          exact h _ hf
        | _ => exact hr₂.elim
    | _ => exact hr.elim
end
section
variable {X : Cx}
/-- set(a list of ints) -/
def rSetL (K : PySem.W.Frag) (w : World) : List V → Hp → VK → Prop := fun vs H Q => ∃ (a : Addr) (ns : List Int), vs = [V.ref a] ∧ SqL K H a (ns.map V.int) ∧ ns.length + 1 < scanBound ∧
  ∀ (p : Addr) (c : Nat), c ≤ ns.length → H p = none → Q (.ref p) (upd H p (SetO w p (fun j => decide (j ∈ ns)) c))
theorem cr_setL (hc : X.calm = true) : CallR X (.type "set") (rSetL X.K X.w) := by
  intro pq s σ H vs us Q I rs h
  obtain ⟨a, ns, rfl, hs, hb, q⟩ := h
  obtain ⟨out, rv, il, _⟩ := I.list hs
  rw [Vals.ref1 rs]
  refine set_list (I.ok.hd hc) il.isList rv.ints hb fun s₂ hf => ?_
  obtain ⟨h', tk, c, rfl, new, hc', old⟩ := hf
  exact ⟨.ref _, upd H s.heap.objs.size (SetO X.w s.heap.objs.size _ c), I.laid (t' := tk) old (Nat.le_refl _) (setO_new new), rfl, q _ c hc' (I.hok.fresh (Nat.le_refl _))⟩
end
end RE
set_option maxHeartbeats 4000000
namespace RE
open PySem PySem.Spec PyProof.Rows L2
def insU (k : Int) : List Int → List Int
  | [] => [k]
  | x :: xs => if k < x then k :: x :: xs else if k = x then x :: xs else x :: insU k xs
def setL (ns : List Int) : List Int := ns.foldr insU []
theorem mem_insU {k j : Int} : ∀ {l : List Int}, j ∈ insU k l ↔ j = k ∨ j ∈ l
  | [] => by unfold insU; rw [List.mem_singleton]; simp
  | x :: xs => by
    unfold insU
    split
    · rw [List.mem_cons]
    · split
      · rename_i e
        subst e
        rw [List.mem_cons]
        exact ⟨.inr, fun h => h.elim .inl id⟩
      · rw [List.mem_cons, List.mem_cons, mem_insU]
        exact or_left_comm
theorem up_insU {k : Int} : ∀ {l : List Int}, l.Pairwise (· < ·) → (insU k l).Pairwise (· < ·)
  | [], _ => List.pairwise_singleton _ _
  | x :: xs, h => by
    obtain ⟨h1, h2⟩ := List.pairwise_cons.mp h
    unfold insU
    split
    · rename_i lt
      refine List.pairwise_cons.mpr ⟨fun y hy => ?_, h⟩
      rcases List.mem_cons.mp hy with e | m
      · rw [e]; exact lt
      · exact Int.lt_trans lt (h1 y m)
    · split
      · exact h
      · refine List.pairwise_cons.mpr ⟨fun y hy => ?_, up_insU h2⟩
        rcases mem_insU.mp hy with e | m
        · rw [e]; omega
        · exact h1 y m
theorem mem_setL {j : Int} : ∀ {ns : List Int}, j ∈ setL ns ↔ j ∈ ns
  | [] => Iff.rfl
  | k :: ns => by
    show j ∈ insU k (setL ns) ↔ _
    rw [mem_insU, mem_setL, List.mem_cons]
theorem up_setL : ∀ {ns : List Int}, (setL ns).Pairwise (· < ·)
  | [] => .nil
  | k :: ns => up_insU (up_setL (ns := ns))
theorem up_uniq : ∀ {a b : List Int}, a.Pairwise (· < ·) → b.Pairwise (· < ·) → (∀ j, j ∈ a ↔ j ∈ b) → a = b
  | [], [], _, _, _ => rfl
  | [], y :: b, _, _, h => nomatch (h y).mpr List.mem_cons_self
  | x :: a, [], _, _, h => nomatch (h x).mp List.mem_cons_self
  | x :: a, y :: b, ha, hb, h => by
    obtain ⟨a1, a2⟩ := List.pairwise_cons.mp ha
    obtain ⟨b1, b2⟩ := List.pairwise_cons.mp hb
    have e : x = y := by
      rcases List.mem_cons.mp ((h x).mp List.mem_cons_self) with e | m
      · exact e
      · rcases List.mem_cons.mp ((h y).mpr List.mem_cons_self) with e | n
        · exact e.symm
        · have := b1 x m
          have := a1 y n
          omega
    subst e
    rw [up_uniq a2 b2 fun j => ?_]
    constructor
    · intro m
      rcases List.mem_cons.mp ((h j).mp (List.mem_cons_of_mem _ m)) with e | n
      · have := a1 j m; omega
      · exact n
    · intro m
      rcases List.mem_cons.mp ((h j).mpr (List.mem_cons_of_mem _ m)) with e | n
      · have := b1 j m; omega
      · exact n
def sortSetD : List D → Option D
  | [.lst ds] => match mapO toI ds with
    | some ns => if ns.length < 64 then some (.lst ((setL ns).map .int)) else none
    | none => none
  | _ => none
def rSortSet (K : PySem.W.Frag) (w : World) : List V → Hp → VK → Prop := fun vs H Q => rSetL K w vs H fun v H1 => rSortedSet w [v] H1 Q
theorem rop_sortSet {g : G} {w : World} : ROpN g (rSortSet g.K w) sortSetD := by
  intro ρ σ st H xs ds d Q e s rs k
  unfold sortSetD at e
  split at e
  · rename_i es
    obtain ⟨v, rfl, r⟩ := rs.one
    obtain ⟨a, ys, rfl, ha, _, ra⟩ := r.inv_lst
    split at e
    · rename_i ns ei
      split at e
      · rename_i few
        cases Option.some.inj e
        have hy := toI_all ei ra
        subst hy
        refine ⟨a, ns, rfl, SqL.of ha, by unfold scanBound; omega, fun p c hc hp => ⟨p, _, c, rfl, upd_same, by omega, fun ms q up hm _ hq => ?_⟩⟩
        have em : ms = setL ns := up_uniq up up_setL fun j => by rw [mem_setL, hm j, decide_eq_true_iff]
        subst em
        exact fresh_lst (s.new hp) (rpA_map V.int D.int fun t _ => .int t) (fun ρ' H' v e' s' r' => k ρ' H' v ((Ext.new s hp).trans e') s' r') q hq
      · cases e
    · cases e
  · cases e
section
variable {X : Cx} {g : G} {ER : EK} {pos pos1 p p1 : Pos} {e : Expr} {m : M}
theorem pe_mSortSet (hK : g.K = X.K) (hc : X.calm = true) (hg : Gl X "sorted") (hm : X.mg "sorted" = none) (hg1 : Gl X "set") (hm1 : X.mg "set" = none) (ha : PE X e (tM g ER m))
    (h1 : starEach [.Call (.Name "set" p1) [e] [] pos1] X.env = (false, eval (.Call (.Name "set" p1) [e] [] pos1) X.env) :: starEach [] X.env := by rfl)
    (h2 : starEach [e] X.env = (false, eval e X.env) :: starEach [] X.env := by rfl) :
    PE X (.Call (.Name "sorted" p) [.Call (.Name "set" p1) [e] [] pos1] [] pos) (tM g ER (mFun sortSetD (mCons m mNil))) :=
  PEi (pe_callB (cr_sortedSet hc) hg hm (by decide +kernel) (pa_cons (pe_callTy (cr_setL hc) hg1 hm1 (by decide +kernel) (pa_mCons ha pa_mNil h2) (by decide) (by decide) h2 (by rfl)) pa_nil h1) (by decide) (by decide) h1 (by rfl))
    fun _ _ _ h => hK ▸ tM_fun (rop_sortSet (w := X.w)) h
end
end RE
set_option maxHeartbeats 4000000
namespace RE
open PySem PySem.Spec PyProof.Rows L2
def mAug (f : Int → Int → Int) (i : Nat) (m : M) : MS := fun st => match st.sl[i]? with
  | some (.d (.int a)) => bindS (m st) fun d st1 => match d with
    | .int b => .nx (st1.put i (.d (.int (f a b))))
    | _ => .no
  | _ => .no
section
variable {X : Cx} {g : G} {ER : EK} {pos pos' : Pos}
theorem ps_mAug {f : Int → Int → Int} {op : Operator} {i : Nat} {x : Str} {e : Expr} {m : M} (ho : PIp X op (ipI f)) (hN : X.N.Nodup) (hi : X.N[i]? = some x) (hx : Loc X.env.scope x) (he : PE X e (tM g ER m)) (hf : X.fn x = true ∨ X.env.scope.names.lookup x = some .local := by first | exact .inl rfl | exact .inr rfl) :
    PS X (.AugAssign (.Name x pos') op e pos) (tMS g ER (mAug f i m)) := by
  refine PSi (ps_aug hN hi hx he ho hf) fun E σ H h => ?_
  obtain ⟨ρ, st, s, h⟩ := h
  unfold mAug at h
  split at h
  · rename_i a ha
    have lt : i < σ.length := by
      rw [s.len]
      exact (List.getElem?_eq_some_iff.mp ha).1
    obtain ⟨v, e1, rv⟩ := s.slot i _ _ ha (List.getElem?_eq_getElem lt)
    obtain rfl := rv.inv_int
    refine ⟨.int a, by rw [List.getElem?_eq_getElem lt, e1], ρ, st, s, (OutS.bind h).mono fun d st1 ρ1 H1 _ h1 s1 u ru => ?_⟩
    cases d with
    | int b =>
      obtain rfl := ru.inv_int
      exact ⟨a, b, rfl, rfl, h1 ρ1 _ H1 (Ext.put i _) (s1.put i ⟨_, rfl, .int _⟩)⟩
    | _ => exact h1.elim
  · exact h.elim
end
end RE
set_option maxHeartbeats 4000000
namespace RE
open PySem PySem.Spec PyProof.Rows L2
def mCh (f f' : D → D → Option D) (ma mb mc : M) : M := fun st => bindO (ma st) fun a st1 => bindO (mb st1) fun b st2 => match f a b with
  | some (.bl true) => bindO (mc st2) fun c st3 => optO (f' b c) st3
  | some (.bl false) => .ok (.bl false) st2
  | _ => .no
section
variable {X : Cx} {g : G} {ER : EK} {pos : Pos} {op op' : CmpOp} {a b c : Expr} {r r' : R2} {f f' : D → D → Option D} {ma mb mc : M}
theorem tM_ch (hf : ROp g r f) (hf' : ROp g r' f') {σ : L2.St} {H : Hp} {Q : VK} (h : tM g ER (mCh f f' ma mb mc) σ H Q) : tChain r r' (tM g ER ma) (tM g ER mb) (tM g ER mc) σ H Q := by
  obtain ⟨ρ, st, s, h⟩ := h
  refine ⟨ρ, st, s, (OutC.bind h).mono fun x st1 ρ1 H1 _ h1 s1 v rv => ?_⟩
  refine ⟨ρ1, st1, s1, (OutC.bind h1).mono fun y st2 ρ2 H2 e2 h2 s2 u ru => ?_⟩
  split at h2
  · rename_i e
    refine hf ρ2 σ st2 H2 v u x y _ _ e s2 (rv.go e2) ru fun ρ' H' z e' s' rz => ?_
    refine ⟨true, rz.inv_bl, iteT ⟨ρ', st2, s', ?_⟩⟩
    refine (OutC.bind (h2.later e')).mono fun w st3 ρ3 H3 e3 h3 s3 t rt => ?_
    cases ee : f' y w with
    | none => rw [ee] at h3; exact h3.elim
    | some d =>
      rw [ee] at h3
      exact hf' ρ3 σ st3 H3 u t y w d Q ee s3 ((ru.go e').go e3) rt fun ρ'' H'' z' e'' s'' r'' => h3 ρ'' H'' e'' s'' z' r''
  · rename_i e
    refine hf ρ2 σ st2 H2 v u x y _ _ e s2 (rv.go e2) ru fun ρ' H' z e' s' rz => ?_
    exact ⟨false, rz.inv_bl, iteF (h2 ρ' H' e' s' _ (.bl false))⟩
  · exact h2.elim
theorem pe_mCh (ho : OpR X (compareOp op) r) (hf : ROp g r f) (ho' : OpR X (compareOp op') r') (hf' : ROp g r' f') (pa : PE X a (tM g ER ma)) (pb : PE X b (tM g ER mb)) (pc : PE X c (tM g ER mc))
    (hm : lastMarks [op, op'] [b, c] = false := by with_unfolding_all rfl) : PE X (.Compare a [op, op'] [b, c] pos) (tM g ER (mCh f f' ma mb mc)) := PEi (pe_chain ho ho' pa pb pc hm) fun _ _ _ => tM_ch hf hf'
theorem pt_mCh (ho : OpR X (compareOp op) r) (hf : ROp g r f) (ho' : OpR X (compareOp op') r') (hf' : ROp g r' f') (pa : PE X a (tM g ER ma)) (pb : PE X b (tM g ER mb)) (pc : PE X c (tM g ER mc))
    (hm : lastMarks [op, op'] [b, c] = false := by with_unfolding_all rfl) : PT X (.Compare a [op, op'] [b, c] pos) (tMT g ER (mB (mCh f f' ma mb mc))) := by
  refine PTi (pt_chain ho ho' pa pb pc hm) fun σ H Q h => ?_
  obtain ⟨ρ, st, s, h⟩ := tMT_B h
  exact tM_ch hf hf' ⟨ρ, st, s, h⟩
end
end RE
set_option maxHeartbeats 4000000
namespace RE
open PySem PySem.Spec PyProof.Rows L2
theorem kv_vals : ∀ {kvs : List (Key × V)} {vs : List (Key × Value)}, KV kvs vs → Vals (kvs.map (·.2)) (vs.map (·.2))
  | _, _, .nil => .nil
  | _, _, .cons r t => .cons r.2 (kv_vals t)
/-- what is asked of d, and what is told -/
def rDVals : V → Hp → VK → Prop := fun x H Q => ∃ (d : Addr) (kvs : List (Key × V)), x = V.ref d ∧ Rd H d (.dK kvs) ∧ ∀ p, H p = none → Q (.ref p) (upd H p (.lst (kvs.map (·.2))))
def valsD : D → Option D
  | .dK kvs => some (.lst (kvs.map (·.2)))
  | _ => none
def mDVals (m : M) : M := fun st => bindO (m st) fun d st1 => optO (valsD d) st1
section
variable {X : Cx} {g : G} {ER : EK} {e : Expr} {te : TE} {m : M} {p apos cpos pos : Pos}
theorem pe_dvals (calm : X.calm = true) (pe : PE X e te) (hg : Gl X "list") (hm : X.mg "list" = none) (hb : attributeBase e "values" X.env (eval e X.env) = eval e X.env := by rfl) (hl : (apos.endLine == cpos.line) = true := by rfl)
    (one : starEach [.Call (.Attribute e "values" apos) [] [] cpos] X.env = (false, eval (.Call (.Attribute e "values" apos) [] [] cpos) X.env) :: starEach [] X.env := by rfl) :
    PE X (.Call (.Name "list" p) [.Call (.Attribute e "values" apos) [] [] cpos] [] pos) (fun σ H Q => te σ H fun x H1 => rDVals x H1 Q) := by
  refine ⟨fun pq s σ H Q I h => ?_⟩
  refine wpAny_Call_Name_kw (ld_blt I hg hm (by decide +kernel : bootBuiltins "list" = some (.type "list")) ?_)
  refine callWith_type1 ?_ one rfl
  rw [one]
  show wpAny _ _ (spliced ((false, eval (Expr.Call (.Attribute e "values" apos) [] [] cpos) X.env) :: backTo pos (starEach [] X.env))) _ _ s
  refine Calls.spliced_cons ?_
  refine wpAny_Call_method (id := "dict.values") (T := "dict") hb rfl hl F.plainAttrs_dict F.slot_dict_values F.type_dict_values (thn (pe.run pq s σ H _ I h) fun u s1 q => ?_)
  obtain ⟨x, H1, I1, rx, d, kvs, rfl, hd, k⟩ := q
  obtain rfl : u = Value.ref d := rx
  obtain ⟨small, notSys, vs, kv, dof⟩ := dk_rd I1.hok hd
  obtain ⟨ep, dat⟩ := dof.dictAt
  have same : kvs.length = vs.length := Paired.length kv
  refine ⟨dof.typeIs, dof.mapOf.noDict, ?_⟩
  show wpAny _ _ (callWith cpos (Value.builtin "dict.values") [.ref d] [] []) _ X.xe s1
  have I2 : Inv X pq σ H1 { s1 with heap := s1.heap.push { cls := .type "dict_values", data := .fields #[.ref d] } } := I1.kept (t' := s1.toks) fun _ _ z => Heap.get?_push_of_some _ z
  refine method_meetsIn F.slot_dict_values F.entry_dict_values rfl (PySem.evalArgs_none ⟨rfl, dof.typeIs, F.args_dict_values_1 _, _, meets_dict_values (mixKind X.prog X.w) d notSys, ⟨vs, dof⟩, ?_⟩)
  refine Calls.spliced_nil ?_
  refine PySem.W.kdl_call (PySem.W.kdl_values (ep := ep) (kvs := vs) (knd := mixKind X.prog X.w)) (I1.ok.hd calm) ⟨⟨_, Heap.get?_push_size _ rfl, rfl, rfl⟩, dat.push _⟩ (by omega) fun h' tk acc c hk new items => ?_
  have ev : acc.toList = vs.map (·.2) := PySem.W.kdl_vals_eq acc.toList (by rw [Array.length_toList]; exact items.1) fun j v z => items.2 j v (by rw [← Array.getElem?_toList]; exact z)
  refine ⟨.ref _, upd H1 _ (.lst (kvs.map (·.2))), I2.laid (t' := tk) hk (Nat.le_refl _) ?_, rfl, k _ (I2.hok.fresh (Nat.le_refl _))⟩
  refine (show ObjOk X.prog X.w _ _ _ (HO.lst (kvs.map (·.2))) from ⟨by rw [List.length_map]; exact small, acc.toList, c, by rw [ev]; exact kv_vals kv, ?_⟩)
  rw [Array.toArray_toList]
  exact new
theorem pe_mDVals (calm : X.calm = true) (pe : PE X e (tM g ER m)) (hg : Gl X "list") (hm : X.mg "list" = none) (hb : attributeBase e "values" X.env (eval e X.env) = eval e X.env := by rfl) (hl : (apos.endLine == cpos.line) = true := by rfl)
    (one : starEach [.Call (.Attribute e "values" apos) [] [] cpos] X.env = (false, eval (.Call (.Attribute e "values" apos) [] [] cpos) X.env) :: starEach [] X.env := by rfl) :
    PE X (.Call (.Name "list" p) [.Call (.Attribute e "values" apos) [] [] cpos] [] pos) (tM g ER (mDVals m)) := by
  refine PEi (pe_dvals calm pe hg hm hb hl one) fun σ H Q h => ?_
  obtain ⟨ρ, st, s, h⟩ := h
  refine ⟨ρ, st, s, (OutC.bind h).mono fun d st1 ρ1 H1 _ h1 s1 v rv => ?_⟩
  cases ed : valsD d with
  | none => rw [ed] at h1; exact h1.elim
  | some r =>
    rw [ed] at h1
    cases d with
    | dK ds =>
      cases Option.some.inj ed
      cases rv with
      | dK ha na hl hk hv => exact ⟨_, _, rfl, ha, fresh_lst s1 (vals_of hl hv) fun ρ' H' u e' s' r' => h1 ρ' H' e' s' u r'⟩
    | _ => cases ed
end
end RE
set_option maxHeartbeats 4000000
namespace RE
open PySem PySem.Spec PyProof.Rows L2
section
variable (kx vx ta ia tb ib : Expr) (fa fb : List Expr) (sc : Scope) (pos : Pos)
abbrev dcx : Expr := .DictComp kx vx [⟨ta, ia, fa, 0⟩, ⟨tb, ib, fb, 0⟩] sc pos
theorem dcx_turnA (it acc : Value) (env : Env) : compTurn (dcx kx vx ta ia tb ib fa fb sc pos) 0 it acc env = (do
    standAt ia.pos
    match ← pyNext it with
    | none => pure (.done .next)
    | some y =>
      letOwnedTupleGo ta it y
      assign ta env y
      let mut go := true
      for t in fa do
        if go then go ← isTrue t env (eval t env)
      if go then
        let src ← eval ib env
        standAt ib.pos
        let src ← foldedSetIterable ib env src
        let _ ← runOwn (.compStart (dcx kx vx ta ia tb ib fa fb sc pos) 1 (← holding [src] (pyIter src)) acc env) env
      again (.compLoop (dcx kx vx ta ia tb ib fa fb sc pos) 0 it acc env)) := by rfl
theorem dcx_turnB (it : Value) (p : Addr) (env : Env) : compTurn (dcx kx vx ta ia tb ib fa fb sc pos) 1 it (.ref p) env = (do
    standAt ib.pos
    match ← pyNext it with
    | none => pure (.done .next)
    | some y =>
      letOwnedTupleGo tb it y
      assign tb env y
      let mut go := true
      for t in fb do
        if go then go ← isTrue t env (eval t env)
      if go then
        (do
          let u ← eval kx env
          let r ← holding [u] (eval vx env)
          standAt { kx.pos with endLine := vx.pos.endLine, endCol := vx.pos.endCol }
          holding [u, r] (dictSet p u r))
      again (.compLoop (dcx kx vx ta ia tb ib fa fb sc pos) 1 it (.ref p) env)) := by rfl
end
section
variable {P : Program} {w : World} {A : Around} {R : Result → Shared → Prop} {s : Shared} {kx vx ta ia tb ib : Expr} {fa fb : List Expr} {sc : Scope} {pos : Pos} {it acc : Value} {p : Addr} {env : Env}
abbrev errAt (P : Program) (w : World) (A : Around) (env : Env) (R : Result → Shared → Prop) := notedBy (model P w) A env fun x t => R (.error x) t
abbrev asked (fs : List Expr) (env : Env) : Sem Bool := forIn fs true fun t r => if r = true then do let go ← isTrue t env (eval t env); pure (ForInStep.yield go) else pure (ForInStep.yield r)
theorem dcx_loopA (fold : ∀ x, foldedSetIterable ib env x = pure x) (I : Nat → Shared → Prop)
    (turn : ∀ k t, I k t → wpAny (model P w) A (pyNext it) (fun r s1 => match r with
      | none => R (.ok .next) s1
      | some y => wpAny (model P w) A (letOwnedTupleGo ta it y) (fun _ s2 => wpAny (model P w) A (assign ta env y) (fun _ s3 => wpAny (model P w) A (asked fa env) (fun b s4 =>
          if b = true then wpAny (model P w) A (eval ib env) (fun x s5 => wpAny (model P w) A (pyIter x) (fun jt s6 => codeAny (model P w) A (.compStart (dcx kx vx ta ia tb ib fa fb sc pos) 1 jt acc env) (fun r s7 => match r with
            | .ok _ => ∃ m, m < k ∧ I m s7
            | .error _ => False) s6) (errAt P w A env R) s5) (errAt P w A env R) s4
          else ∃ m, m < k ∧ I m s4) (errAt P w A env R) s3) (errAt P w A env R) s2) (errAt P w A env R) s1) (errAt P w A env R) t)
    (n : Nat) (h : I n s) : codeAny (model P w) A (.compLoop (dcx kx vx ta ia tb ib fa fb sc pos) 0 it acc env) R s := by
  refine codeAny_loop rfl I (fun k t hk => ?_) n h
  show wpAny _ A ((compTurn (dcx kx vx ta ia tb ib fa fb sc pos) 0 it acc env).onRaise (fun y => do noteFrame y env; theTreesLotGoes y)) _ _ t
  refine wpAny_noted ?_
  rw [dcx_turnA]
  refine wpAny_bind (wpAny_standAt (wpAny_bind (thn (turn k t hk) fun r s1 q1 => ?_)))
  cases r with
  | none => exact wpAny_pure q1
  | some y =>
    refine wpAny_bind (thn q1 fun _ s2 q2 => wpAny_bind (thn q2 fun _ s3 q3 => wpAny_bind (thn q3 fun b s4 q4 => ?_)))
    cases b with
    | false => exact wpAny_pure ⟨rfl, q4⟩
    | true =>
      refine wpAny_bind (thn q4 fun x s5 q5 => wpAny_bind (wpAny_standAt ?_))
      refine wpAny_bind (wpAny_of_eq (fold x) (wpAny_bind (wpAny_holding (thn q5 fun jt s6 q6 => ?_))))
      refine wpAny_bind (wpAny_runOwn ?_)
      rw [Around.mark_none]
      refine codeAny_mono q6 fun r s7 q7 => ?_
      cases r with
      | error e => exact q7.elim
      | ok f => first
        | exact wpAny_pure ⟨rfl, q7⟩
        | exact wpAny_bind (wpAny_pure (wpAny_pure ⟨rfl, q7⟩))
theorem dcx_loopB (I : Nat → Shared → Prop)
    (turn : ∀ k t, I k t → wpAny (model P w) A (pyNext it) (fun r s1 => match r with
      | none => R (.ok .next) s1
      | some y => wpAny (model P w) A (letOwnedTupleGo tb it y) (fun _ s2 => wpAny (model P w) A (assign tb env y) (fun _ s3 => wpAny (model P w) A (asked fb env) (fun b s4 =>
          if b = true then wpAny (model P w) A (eval kx env) (fun u s5 => wpAny (model P w) A (eval vx env) (fun r s6 => wpAny (model P w) A (dictSet p u r) (fun _ s7 => ∃ m, m < k ∧ I m s7) (errAt P w A env R) s6) (errAt P w A env R) s5) (errAt P w A env R) s4
          else ∃ m, m < k ∧ I m s4) (errAt P w A env R) s3) (errAt P w A env R) s2) (errAt P w A env R) s1) (errAt P w A env R) t)
    (n : Nat) (h : I n s) : codeAny (model P w) A (.compLoop (dcx kx vx ta ia tb ib fa fb sc pos) 1 it (.ref p) env) R s := by
  refine codeAny_loop rfl I (fun k t hk => ?_) n h
  show wpAny _ A ((compTurn (dcx kx vx ta ia tb ib fa fb sc pos) 1 it (.ref p) env).onRaise (fun y => do noteFrame y env; theTreesLotGoes y)) _ _ t
  refine wpAny_noted ?_
  rw [dcx_turnB]
  refine wpAny_bind (wpAny_standAt (wpAny_bind (thn (turn k t hk) fun r s1 q1 => ?_)))
  cases r with
  | none => exact wpAny_pure q1
  | some y =>
    refine wpAny_bind (thn q1 fun _ s2 q2 => wpAny_bind (thn q2 fun _ s3 q3 => wpAny_bind (thn q3 fun b s4 q4 => ?_)))
    cases b with
    | false => exact wpAny_pure ⟨rfl, q4⟩
    | true =>
      refine wpAny_bind (wpAny_bind (thn q4 fun u s5 q5 => wpAny_bind (wpAny_holding (thn q5 fun r s6 q6 => ?_))))
      exact wpAny_bind (wpAny_standAt (wpAny_holding (thn q6 fun _ s7 q7 => wpAny_pure ⟨rfl, q7⟩)))
theorem dcx_start (h0 : codeAny (model P w) A (.compLoop (dcx kx vx ta ia tb ib fa fb sc pos) 1 it acc env) R s)
    (h : wpAny (model P w) A (pyIter it) (fun jt t => codeAny (model P w) A (.compLoop (dcx kx vx ta ia tb ib fa fb sc pos) 1 jt acc env) R t) (errAt P w A env R) s) :
    codeAny (model P w) A (.compStart (dcx kx vx ta ia tb ib fa fb sc pos) 1 it acc env) R s := by
  refine codeAny_of_tree ?_
  show wpAny _ _ ((compStart (dcx kx vx ta ia tb ib fa fb sc pos) 1 it acc env).onRaise (fun y => do noteFrame y env; standAt theWindowsPlace)) _ _ s
  refine wpAny_notedAt ?_
  unfold compStart
  show wpAny _ _ (ask >>= _) _ _ s
  refine wpAny_bind (wpAny_askSetting (wpAny_ite ?_))
  split
  · first
      | exact wpAny_bind (wpAny_pure (wpAny_pure ⟨rfl, h0⟩))
      | exact wpAny_pure ⟨rfl, h0⟩
  · refine wpAny_bind (wpAny_rule ?_)
    first
      | exact wpAny_bind (wpAny_standAt (wpAny_bind (thn h fun jt t q => wpAny_pure ⟨rfl, q⟩)))
      | (show wpAny _ _ (standAt ib.pos >>= _) _ _ s; exact wpAny_bind (wpAny_standAt (wpAny_bind (thn h fun jt t q => wpAny_pure ⟨rfl, q⟩))))
end
end RE
set_option maxHeartbeats 4000000
namespace RE
open PySem PySem.Spec PyProof.Rows L2
section
variable {X : Cx}
/-- the inner walk's turns: what is reached behind it (N), where the dict stands (p) -/
def InnerW (p : Addr) (g1 : TG) (tt1 : TT) (tk tv : TE) (vs1 : List Nat) (σ2 : L2.St) (N : Hp → Prop) (J1 : It) (H4 : Hp) : Prop := ∃ W1 : Nat → Nat → Hp → Prop, (∃ m, W1 0 m H4) ∧ ∀ j k H, W1 j k H →
  (J1.stop j H ∧ N H) ∨ (J1.go j H ∧ ∃ N1 : Hp → Prop, (∀ H', N1 H' → ∃ k', k' < k ∧ W1 (j + 1) k' H') ∧
    ∀ x H', J1.yld j H x H' → g1 x (wipe σ2 vs1) H' fun σ3 H5 => tt1 σ3 H5 fun b H6 => wipe σ3 vs1 = wipe σ2 vs1 ∧
      if b = true then tk σ3 H6 fun y H7 => tv σ3 H7 fun z H8 => ∃ H9, DPut H8 p y z H9 ∧ N1 H9 else N1 H6)
def tDcB (o0 : HO) (wi : TI) (g : TG) (tt : TT) (wi1 : TI) (g1 : TG) (tt1 : TT) (tk tv : TE) (vs vs1 : List Nat) : TE := fun σ H Q => wi σ H fun J H1 => ∀ p, H1 p = none → ∃ W : Nat → Nat → Hp → Prop, (∃ m, W 0 m (upd H1 p o0)) ∧ ∀ i m H, W i m H →
  (J.stop i H ∧ Q (.ref p) H) ∨
  (J.go i H ∧ ∃ Nx : Hp → Prop, (∀ H', Nx H' → ∃ m', m' < m ∧ W (i + 1) m' H') ∧
    ∀ x H', J.yld i H x H' → g x (wipe σ vs) H' fun σ2 H2 => tt σ2 H2 fun b H3 => wipe σ2 vs = wipe σ vs ∧
      if b = true then wi1 σ2 H3 fun J1 H4 => InnerW p g1 tt1 tk tv vs1 σ2 Nx J1 H4 else Nx H3)
theorem dcB_loop {pn : List (Addr × Obj)} {σ : L2.St} {Q : VK} {kx vx ta ia tb ib : Expr} {fa fb : List Expr} {sc : Scope} {own : List (Str × Nat)} {vs1 : List Nat} {pos : Pos} {ga gb : TG} {tta ttb : TT} {wib : TI} {tk tv : TE} {use : Option (Value → Sem Unit)} {Qf : Value → Shared → Prop}
    {p itr : Addr} {fq : List Addr} {tn : Nat → Heap → Prop} {J : It} {sD sB : Shared} {ce : Env} {HD : Hp} {W : Nat → Nat → Hp → Prop} {m0 : Nat}
    (hu : X.A.units < cLine) (calm : X.calm = true) (hv : ∀ i ∈ vs1, i ∈ own.map (·.2)) (T : Turn X.prog X.w X.K ta J fq itr tn) (B : Blk X pn σ (own.map (·.2)) fq tn sc ce HD sD sB)
    (pga : PG (X.blk sD HD sc ce fq) ta ga) (pta : PTs (X.blk sD HD sc ce fq) fa tta) (pib : PI (X.blk sD HD sc ce fq) tb ib wib) (pgb : PG (X.blk sD HD sc ce fq) tb gb) (ptb : PTs (X.blk sD HD sc ce fq) fb ttb)
    (pk : PE (X.blk sD HD sc ce fq) kx tk) (pv : PE (X.blk sD HD sc ce fq) vx tv) (fold : ∀ env x, foldedSetIterable ib env x = pure x)
    (w0 : W 0 m0 HD) (step : ∀ i m H, W i m H → (J.stop i H ∧ Q (.ref p) H) ∨
      (J.go i H ∧ ∃ Nx : Hp → Prop, (∀ H', Nx H' → ∃ m', m' < m ∧ W (i + 1) m' H') ∧
        ∀ x H', J.yld i H x H' → ga x (wipe σ (own.map (·.2))) H' fun σ2 H2 => tta σ2 H2 fun b H3 => wipe σ2 (own.map (·.2)) = wipe σ (own.map (·.2)) ∧
          if b = true then wib σ2 H3 fun J1 H4 => InnerW p gb ttb tk tv vs1 σ2 Nx J1 H4 else Nx H3))
    (fin : ∀ s' m H', Inv X pn σ H' s' → Q (.ref p) H' → s'.heap.Ns sD.heap.objs.size m → FpOk X pn H' sD.heap.objs.size → compPost (model X.prog X.w) X.A X.xe use Qf (.ref p) sD.heap.objs.size (.ok .next) s') :
    codeAny (model X.prog X.w) X.A (.compLoop (dcx kx vx ta ia tb ib fa fb sc pos) 0 (.ref itr) (.ref p) ce) (compPost (model X.prog X.w) X.A X.xe use Qf (.ref p) sD.heap.objs.size) sB := by
  refine dcx_loopA (fold ce) (fun n s' => ∃ i H', Inv (X.blk sD HD sc ce fq) [] (wipe σ (own.map (·.2))) H' s' ∧ tn i s'.heap ∧ (∀ b ∈ fq, H' b = none) ∧ W i n H') ?_ m0 ⟨0, _, B.beg, B.its, B.off, w0⟩
  rintro n s5 ⟨i, H5, I5, t5, n5, w5⟩
  rcases step i n H5 w5 with ⟨stop, qq⟩ | ⟨go, Nx, hNx, st⟩
  · refine thnF (T.done (X.blk sD HD sc ce fq) rfl rfl rfl calm i [] s5 _ H5 (fun _ _ => False) I5 (B.stay I5 n5) t5 stop) fun r s6 hr => ?_
    obtain ⟨rfl, I6⟩ := hr
    obtain ⟨I7, ⟨m, hm⟩, f7⟩ := B.out I6
    exact fin s6 m H5 I7 qq hm f7
  refine turn_go (Y := X.blk sD HD sc ce fq) rfl calm T pga pta I5 (B.stay I5 n5) t5 go st fun b s7 σ9 H9 s9 t7 I9 q9 => ?_
  obtain ⟨hw, q9⟩ := q9
  have close : ∀ {τ : L2.St} {s' : Shared} {H' : Hp}, Inv (X.blk sD HD sc ce fq) ([] ++ pinsAt fq s7.heap) τ H' s' → (wipe σ (own.map (·.2))).length = τ.length → (∀ (j : Nat) v, (wipe σ (own.map (·.2)))[j]? = some (some v) → τ[j]? = some (some v)) → Nx H' →
      ∃ m, m < n ∧ ∃ i H', Inv (X.blk sD HD sc ce fq) [] (wipe σ (own.map (·.2))) H' s' ∧ tn i s'.heap ∧ (∀ b ∈ fq, H' b = none) ∧ W i m H' := fun {τ s' H'} I' hl hk nx => by
    obtain ⟨mn, hm, w'⟩ := hNx H' nx
    obtain ⟨e1, e2, e3⟩ := turn_end (Y := X.blk sD HD sc ce fq) T t7 I'
    exact ⟨mn, hm, i + 1, H', e3.weak hl hk, e1, e2, w'⟩
  have l9 : (wipe σ (own.map (·.2))).length = σ9.length := by rw [← hw, wipe_length]
  have k9 : ∀ (j : Nat) v, (wipe σ (own.map (·.2)))[j]? = some (some v) → (wipe σ9 (own.map (·.2)))[j]? = some (some v) := fun j v e => by rw [hw]; exact e
  cases b with
  | false => exact close I9 l9 (fun j v e => (wipe_some (k9 j v e)).1) q9
  | true =>
    refine thnF (pib.run _ s9 σ9 H9 _ I9 q9) fun xv sa ha => thnF ha fun jt sb hb => ?_
    obtain ⟨it1, f1, tn1, J1, Hb, rfl, Ib, T1, tb1, fb1, W1, ⟨m1, w1⟩, turn1⟩ := hb
    have off1 : ∀ {H' : Hp}, (∀ b ∈ f1, H' b = none) → ∀ b ∈ f1, FpOk (X.blk sD HD sc ce fq) ([] ++ pinsAt fq s7.heap) H' b := fun hn b hb => ⟨hn b hb, (fb1 b hb).2⟩
    have inner : codeAny (model X.prog X.w) X.A (.compLoop (dcx kx vx ta ia tb ib fa fb sc pos) 1 (.ref it1) (.ref p) ce) (fun r s' => match r with
        | .ok _ => ∃ m, m < n ∧ ∃ i H', Inv (X.blk sD HD sc ce fq) [] (wipe σ (own.map (·.2))) H' s' ∧ tn i s'.heap ∧ (∀ b ∈ fq, H' b = none) ∧ W i m H'
        | .error _ => False) sb := by
      refine dcx_loopB (fun k s' => ∃ j H', Inv (X.blk sD HD sc ce fq) ([] ++ pinsAt fq s7.heap) (wipe σ9 vs1) H' s' ∧ tn1 j s'.heap ∧ (∀ b ∈ f1, H' b = none) ∧ W1 j k H') ?_ m1 ⟨0, Hb, Ib.weak (wipe_length _ _) (fun j v e => (wipe_some e).1), tb1, fun b hb => (fb1 b hb).1, w1⟩
      rintro k sc' ⟨j, Hc, Ic, tc, nc, wc⟩
      rcases turn1 j k Hc wc with ⟨stop1, nx⟩ | ⟨go1, N1, hN1, st1⟩
      · refine thnF (T1.done (X.blk sD HD sc ce fq) rfl rfl rfl calm j _ sc' _ Hc (fun _ _ => False) Ic (off1 nc) tc stop1) fun r sd hr => ?_
        obtain ⟨rfl, Id⟩ := hr
        refine close Id (l9.trans (wipe_length σ9 vs1).symm) (fun z v e => ?_) nx
        obtain ⟨e1, e2⟩ := wipe_some (k9 z v e)
        rw [wipe_out fun y => e2 (hv z y)]
        exact e1
      · refine turn_go (Y := X.blk sD HD sc ce fq) rfl calm T1 pgb ptb Ic (off1 nc) tc go1 (P := fun b σ3 H6 => wipe σ3 vs1 = wipe (wipe σ9 vs1) vs1 ∧ if b = true then tk σ3 H6 fun y H7 => tv σ3 H7 fun z H8 => ∃ H9, DPut H8 p y z H9 ∧ N1 H9 else N1 H6) (fun x H' y => ?_) fun b se σf Hf sf te If qf => ?_
        · have z := st1 x H' y
          have ww : wipe (wipe σ9 vs1) vs1 = wipe σ9 vs1 := wipe_wipe σ9 vs1 vs1 fun _ h => h
          rw [ww]
          exact z
        obtain ⟨hwf, qf⟩ := qf
        have close1 : ∀ {s' : Shared} {H' : Hp}, Inv (X.blk sD HD sc ce fq) (([] ++ pinsAt fq s7.heap) ++ pinsAt f1 se.heap) σf H' s' → N1 H' →
            ∃ m, m < k ∧ ∃ j H', Inv (X.blk sD HD sc ce fq) ([] ++ pinsAt fq s7.heap) (wipe σ9 vs1) H' s' ∧ tn1 j s'.heap ∧ (∀ b ∈ f1, H' b = none) ∧ W1 j m H' := fun {s' H'} I' nx => by
          obtain ⟨mn, hm, w'⟩ := hN1 H' nx
          obtain ⟨e1, e2, e3⟩ := turn_end (Y := X.blk sD HD sc ce fq) T1 te I'
          have ww : wipe σf vs1 = wipe σ9 vs1 := hwf.trans (wipe_wipe σ9 vs1 vs1 fun _ h => h)
          exact ⟨mn, hm, j + 1, H', e3.weak (by rw [← ww, wipe_length]) (fun z v e => by rw [← ww] at e; exact (wipe_some e).1), e1, e2, w'⟩
        cases b with
        | false => exact close1 If qf
        | true =>
          refine thnF (pk.run _ sf σf Hf _ If qf) fun u sg hg => ?_
          obtain ⟨y, Hg, Ig, rg, qg⟩ := hg
          refine thnF (pv.run _ sg σf Hg _ Ig qg) fun u' sh hh => ?_
          obtain ⟨y', Hh, Ih, rh, Hi, dp, nx⟩ := hh
          exact dset_any (X := X.blk sD HD sc ce fq) hu Ih dp rg rh fun sj Ij => close1 Ij nx
    exact dcx_start inner (T1.self X.A 0 _ _ _ tb1 inner)
theorem dcB_run {pn : List (Addr × Obj)} {s : Shared} {σ : L2.St} {H : Hp} {Q : VK} {kx vx ta ia tb ib : Expr} {fa fb : List Expr} {sc : Scope} {own : List (Str × Nat)} {vs1 : List Nat} {pos pos' : Pos} {o0 : HO} {wi wib : TI} {ga gb : TG} {tta ttb : TT} {tk tv : TE} {use : Option (Value → Sem Unit)} {Qf : Value → Shared → Prop}
    (n0 : NewD o0) (hu : X.A.units < cLine) (calm : X.calm = true) (hN : X.N.Nodup) (In : Inv X pn σ H s) (hi : PI X ta ia wi) (ok : BlkOk X.N X.env.scope sc own) (hv : ∀ i ∈ vs1, i ∈ own.map (·.2))
    (pga : ∀ (s : Shared) (H : Hp) (C : Addr) (cl : List (Str × Addr)) (fq : List Addr), PG (X.blk s H sc (compEnvC sc cl C X.env) fq) ta ga)
    (pta : ∀ (s : Shared) (H : Hp) (C : Addr) (cl : List (Str × Addr)) (fq : List Addr), PTs (X.blk s H sc (compEnvC sc cl C X.env) fq) fa tta)
    (pib : ∀ (s : Shared) (H : Hp) (C : Addr) (cl : List (Str × Addr)) (fq : List Addr), PI (X.blk s H sc (compEnvC sc cl C X.env) fq) tb ib wib)
    (pgb : ∀ (s : Shared) (H : Hp) (C : Addr) (cl : List (Str × Addr)) (fq : List Addr), PG (X.blk s H sc (compEnvC sc cl C X.env) fq) tb gb)
    (ptb : ∀ (s : Shared) (H : Hp) (C : Addr) (cl : List (Str × Addr)) (fq : List Addr), PTs (X.blk s H sc (compEnvC sc cl C X.env) fq) fb ttb)
    (pk : ∀ (s : Shared) (H : Hp) (C : Addr) (cl : List (Str × Addr)) (fq : List Addr), PE (X.blk s H sc (compEnvC sc cl C X.env) fq) kx tk)
    (pv : ∀ (s : Shared) (H : Hp) (C : Addr) (cl : List (Str × Addr)) (fq : List Addr), PE (X.blk s H sc (compEnvC sc cl C X.env) fq) vx tv)
    (hs : ∀ x, foldedSetIterable ia X.env x = pure x) (fold : ∀ env x, foldedSetIterable ib env x = pure x) (h : tDcB o0 wi ga tta wib gb ttb tk tv (own.map (·.2)) vs1 σ H Q)
    (fin : ∀ p C s' m H', Inv X pn σ H' s' → Q (.ref p) H' → s'.heap.Ns C m → FpOk X pn H' C → compPost (model X.prog X.w) X.A X.xe use Qf (.ref p) C (.ok .next) s') :
    wpAny (model X.prog X.w) X.A (comprehension (dcx kx vx ta ia tb ib fa fb sc pos) sc X.env pos' newDict false (eval ia X.env) use) Qf X.xe s := by
  have free : ∀ y ∈ sc.names, y.2 = .free → ∃ c, X.env.cells.lookup y.1 = some c := fun y hy e => In.ok.has _ (ok.free y hy e)
  refine wpAny_comprehension_free (use := use) rfl hs (closure_ok free) ok.kind (fun y hy e => by rw [ok.uniq y hy, e]) (thn (hi.run pn s σ H _ In h) fun xv s1 h1 => thn h1 fun iv s2 h2 => ?_)
  obtain ⟨itr, fq, tn, J, H2, rfl, I2, T, t2, f2, q⟩ := h2
  refine wpAny_newObj_type ?_
  refine newEnv_comp ?_
  obtain ⟨W, ⟨m0, w0⟩, step⟩ := q s2.heap.objs.size (I2.hok.fresh (Nat.le_refl _))
  have B := Blk.make n0 hN I2 T t2 f2 ok rfl rfl rfl
  have lp := dcB_loop (Q := Q) (use := use) (Qf := Qf) (ia := ia) (pos := pos) hu calm hv T B (pga _ _ _ _ _) (pta _ _ _ _ _) (pib _ _ _ _ _) (pgb _ _ _ _ _) (ptb _ _ _ _ _) (pk _ _ _ _ _) (pv _ _ _ _ _) fold w0 step fun s' m H' I' q hm f => fin _ _ s' m H' I' q hm f
  exact codeAny_compStart_dict lp (T.self X.A 0 _ _ _ B.its lp)
end
end RE
set_option maxHeartbeats 4000000
namespace RE
open PySem PySem.Spec PyProof.Rows L2
section
variable {κ : Type} [DecidableEq κ] (DK : DKind κ)
def dc2S (tg : Tg) (tt : MT) (mi1 : MI) (tg1 : Tg) (tt1 : MT) (mk mv : M) (vs1 : List Nat) (w : List Sl) : List D → List Ce → List (κ × D) → Option (List (κ × D) × List Ce)
  | [], ce, acc => some (acc, ce)
  | d :: ds, ce, acc => match tg d ⟨w, ce⟩ with
    | none => none
    | some st1 => match tt st1 with
      | .ok true st2 => match mi1 ⟨st1.sl, st2.ce⟩ with
        | .ok es st3 => match dcS DK tg1 tt1 mk mv (wipeS st1.sl vs1) es st3.ce acc with
          | some (acc', ce3) => dc2S tg tt mi1 tg1 tt1 mk mv vs1 w ds ce3 acc'
          | none => none
        | _ => none
      | .ok false st2 => dc2S tg tt mi1 tg1 tt1 mk mv vs1 w ds st2.ce acc
      | _ => none
def mDc2 (mi : MI) (tg : Tg) (tt : MT) (mi1 : MI) (tg1 : Tg) (tt1 : MT) (mk mv : M) (vs vs1 : List Nat) : M := fun st => bindO (mi st) fun ds st1 => match dc2S DK tg tt mi1 tg1 tt1 mk mv vs1 (wipeS st1.sl vs) ds st1.ce [] with
  | some (xs, ce) => if xs.length ≤ 1000000 then .ok (DK.dd xs) (st1.with ce) else .no
  | none => .no
theorem dc2S_len {tg tg1 : Tg} {tt tt1 : MT} {mi1 : MI} {mk mv : M} {vs1 : List Nat} {w : List Sl} : ∀ (ds : List D) (ce : List Ce) (acc : List (κ × D)) (r : List (κ × D) × List Ce), dc2S DK tg tt mi1 tg1 tt1 mk mv vs1 w ds ce acc = some r → acc.length ≤ r.1.length
  | [], ce, acc, r, h => by cases Option.some.inj h; exact Nat.le_refl _
  | d :: ds, ce, acc, r, h => by
    unfold dc2S at h
    split at h
    · cases h
    · split at h
      · split at h
        · split at h
          · rename_i e
            exact Nat.le_trans (dcS_len DK _ _ _ _ e) (dc2S_len _ _ _ _ h)
          · cases h
        · cases h
      · exact dc2S_len _ _ _ _ h
      · cases h
variable {DK}
variable {g : G} {ER : EK} {ρ0 ρ ρ' : Rh} {st0 st' : S} {H0 H H' : Hp} {σ σ' : L2.St} {p : Addr} {ce : List Ce} {acc : List (κ × V)} {ds : List (κ × D)}
theorem tM_dc2 {mi mi1 : MI} {tgd tgd1 : Tg} {t t1 : TG} {is is1 vs vs1 : List Nat} {tt tt1 : MT} {mk mv : M} (ok : GOk g tgd t is) (hv : ∀ i ∈ is, i ∈ vs) (ok1 : GOk g tgd1 t1 is1) (hv1 : ∀ i ∈ is1, i ∈ vs1) {σ : L2.St} {H : Hp} {Q : VK} (h : tM g ER (mDc2 DK mi tgd tt mi1 tgd1 tt1 mk mv vs vs1) σ H Q) :
    tDcB (DK.ho []) (tMI g ER mi) t (tMT g erNo tt) (tMI g erNo mi1) t1 (tMT g erNo tt1) (tM g erNo mk) (tM g erNo mv) vs vs1 σ H Q := by
  obtain ⟨ρ, st, s, h⟩ := h
  refine ⟨ρ, st, s, (OutC.bind h).mono fun ds st0 ρ0 H0 _ h0 s0 J hJ => ?_⟩
  intro p hp
  cases er : dc2S DK tgd tt mi1 tgd1 tt1 mk mv vs1 (wipeS st0.sl vs) ds st0.ce [] with
  | none => simp only [er] at h0; exact h0.elim
  | some r =>
  obtain ⟨xs, ceE⟩ := r
  simp only [er] at h0
  by_cases hz : xs.length ≤ 1000000
  case neg => rw [if_neg hz] at h0; exact h0.elim
  rw [if_pos hz] at h0
  refine ⟨fun i m H' => m = ds.length - i ∧ i ≤ ds.length ∧ ∃ ρ ce acc dd, GrowD DK g ρ0 st0 H0 σ p ρ ce H' acc dd ∧ dc2S DK tgd tt mi1 tgd1 tt1 mk mv vs1 (wipeS st0.sl vs) (ds.drop i) ce dd = some (xs, ceE), ⟨ds.length, rfl, Nat.zero_le _, _, _, _, _, GrowD.zero s0 hp, er⟩, ?_⟩
  rintro i m H1 ⟨rfl, hi, ρ1, ce1, acc, dd, Gr, er1⟩
  by_cases hlt : i < ds.length
  · have hd : ds.drop i = ds[i] :: ds.drop (i + 1) := List.drop_eq_getElem_cons hlt
    rw [hd] at er1
    unfold dc2S at er1
    have hget : ds[i]? = some ds[i] := List.getElem?_eq_getElem hlt
    obtain ⟨go, yl⟩ := (hJ (Vol ρ1 (st0.with ce1)) H1 (Gr.kp hp) (fun a v => Gr.sim.volT v) i).1 _ hget
    refine .inr ⟨go, fun H' => i + 1 ≤ ds.length ∧ ∃ ρ ce acc dd, GrowD DK g ρ0 st0 H0 σ p ρ ce H' acc dd ∧ dc2S DK tgd tt mi1 tgd1 tt1 mk mv vs1 (wipeS st0.sl vs) (ds.drop (i + 1)) ce dd = some (xs, ceE), fun H' ⟨a, b⟩ => ⟨ds.length - (i + 1), by omega, rfl, a, b⟩, fun x H2 hy => ?_⟩
    obtain ⟨hH, r2⟩ := yl x H2 hy
    obtain ⟨x2, s2⟩ := Ext.like Gr.sim hH
    cases e1 : tgd ds[i] ⟨wipeS st0.sl vs, ce1⟩ with
    | none => simp only [e1] at er1; cases er1
    | some st3 =>
    simp only [e1] at er1
    have G2 := Gr.go hp (stw := st0.with ce1) rfl x2 s2.toCells
    have sw := G2.sim.wipe vs
    refine ok ρ1 _ H2 ⟨wipeS st0.sl vs, ce1⟩ x _ st3 _ e1 sw r2 fun σ3 s3 ce3 hw => ?_
    have hww : wipe σ3 vs = wipe σ vs := by rw [hw vs hv]; exact wipe_wipe σ vs vs fun _ h => h
    refine ⟨ρ1, st3, s3, ?_⟩
    cases e2 : tt st3 with
    | no => simp only [e2] at er1; cases er1
    | er c v s => simp only [e2] at er1; cases er1
    | ok b st4 =>
    intro ρ4 H4 x4 s4
    have G4 := G2.go hp (stw := st3) ce3 x4 s4.toCells
    refine ⟨hww, ?_⟩
    cases b with
    | false =>
      simp only [e2] at er1
      rw [if_neg (by decide)]
      exact ⟨hlt, ρ4, st4.ce, acc, dd, G4, er1⟩
    | true =>
      simp only [e2] at er1
      rw [if_pos rfl]
      have s4' : Sim g ρ4 σ3 H4 (st3.with st4.ce) := s3.back x4 s4.toCells
      refine ⟨ρ4, _, s4', ?_⟩
      cases e3 : mi1 (st3.with st4.ce) with
      | no =>
        have e3' : mi1 ⟨st3.sl, st4.ce⟩ = .no := e3
        simp only [e3'] at er1; cases er1
      | er c v s =>
        have e3' : mi1 ⟨st3.sl, st4.ce⟩ = .er c v s := e3
        simp only [e3'] at er1; cases er1
      | ok es st5 =>
      have e3' : mi1 ⟨st3.sl, st4.ce⟩ = .ok es st5 := e3
      simp only [e3'] at er1
      cases e4 : dcS DK tgd1 tt1 mk mv (wipeS st3.sl vs1) es st5.ce dd with
      | none => simp only [e4] at er1; cases er1
      | some r4 =>
      obtain ⟨dd4, ce4⟩ := r4
      simp only [e4] at er1
      intro ρ5 H5 x5 s5 J1 hJ1
      have G5 := G4.go hp (stw := st3.with st4.ce) rfl x5 s5.toCells
      have s5' : Sim g ρ5 σ3 H5 (st3.with st5.ce) := s4'.back x5 s5.toCells
      refine ⟨fun j k H' => k = es.length - j ∧ j ≤ es.length ∧ ∃ ρ ce acc dd', GrowD DK g ρ0 st0 H0 σ p ρ ce H' acc dd' ∧ Sim g ρ σ3 H' (st3.with ce) ∧ (∀ a o, H5 a = some o → ¬ Vol ρ5 st5 a → H' a = some o ∧ ¬ Vol ρ (st3.with ce) a) ∧
          dcS DK tgd1 tt1 mk mv (wipeS st3.sl vs1) (es.drop j) ce dd' = some (dd4, ce4), ⟨es.length, rfl, Nat.zero_le _, _, _, _, _, G5, s5', fun a o h n => ⟨h, n⟩, e4⟩, ?_⟩
      rintro j k H6 ⟨rfl, hj, ρ6, ce6, acc6, dd6, G6, s6, k6, er6⟩
      by_cases hjl : j < es.length
      · have hd6 : es.drop j = es[j] :: es.drop (j + 1) := List.drop_eq_getElem_cons hjl
        rw [hd6] at er6
        unfold dcS at er6
        have hget6 : es[j]? = some es[j] := List.getElem?_eq_getElem hjl
        obtain ⟨go6, yl6⟩ := (hJ1 (Vol ρ6 (st3.with ce6)) H6 k6 (fun a v => s6.volT v) j).1 _ hget6
        refine .inr ⟨go6, fun H' => j + 1 ≤ es.length ∧ ∃ ρ ce acc dd', GrowD DK g ρ0 st0 H0 σ p ρ ce H' acc dd' ∧ Sim g ρ σ3 H' (st3.with ce) ∧ (∀ a o, H5 a = some o → ¬ Vol ρ5 st5 a → H' a = some o ∧ ¬ Vol ρ (st3.with ce) a) ∧
          dcS DK tgd1 tt1 mk mv (wipeS st3.sl vs1) (es.drop (j + 1)) ce dd' = some (dd4, ce4), fun H' ⟨a, b⟩ => ⟨es.length - (j + 1), by omega, rfl, a, b⟩, fun x' H7 hy7 => ?_⟩
        obtain ⟨hH7, r7⟩ := yl6 x' H7 hy7
        obtain ⟨x7, s7⟩ := Ext.like s6 hH7
        have G7 := G6.go hp (stw := st3.with ce6) rfl x7 s7.toCells
        cases e7 : tgd1 es[j] ⟨wipeS st3.sl vs1, ce6⟩ with
        | none => simp only [e7] at er6; cases er6
        | some st8 =>
        simp only [e7] at er6
        have sw7 := s7.wipe vs1
        refine ok1 ρ6 _ H7 ⟨wipeS st3.sl vs1, ce6⟩ x' _ st8 _ e7 sw7 r7 fun σ8 s8 ce8 hw8 => ?_
        have hw8' : wipe σ8 vs1 = wipe σ3 vs1 := by rw [hw8 vs1 hv1]; exact wipe_wipe σ3 vs1 vs1 fun _ h => h
        refine ⟨ρ6, st8, s8, ?_⟩
        cases e8 : tt1 st8 with
        | no => simp only [e8] at er6; cases er6
        | er c v s => simp only [e8] at er6; cases er6
        | ok b st9 =>
        intro ρ9 H9 x9 s9
        refine ⟨hw8', ?_⟩
        have x9' : Ext ρ6 (st3.with ce6) H7 ρ9 (st3.with st9.ce) H9 := x9.with ce8
        have G9 := G7.go hp (stw := st8) ce8 x9 s9.toCells
        have s9' : Sim g ρ9 σ3 H9 (st3.with st9.ce) := s7.back (st' := st9) (x9.ce (st0 := st3.with ce6) ce8) s9.toCells
        have k9 : ∀ a o, H5 a = some o → ¬ Vol ρ5 st5 a → H9 a = some o ∧ ¬ Vol ρ9 (st3.with st9.ce) a := fun a o h n => by
          obtain ⟨h1, n1⟩ := k6 a o h n
          obtain ⟨h2, n2⟩ := x7.keep a o h1 n1
          exact x9'.keep a o h2 n2
        cases b with
        | false =>
          simp only [e8] at er6
          rw [if_neg (by decide)]
          exact ⟨hjl, ρ9, st9.ce, acc6, dd6, G9, s9', k9, er6⟩
        | true =>
          simp only [e8] at er6
          rw [if_pos rfl]
          refine ⟨ρ9, st9, s9, ?_⟩
          cases e9 : mk st9 with
          | no => simp only [e9] at er6; cases er6
          | er c v s => simp only [e9] at er6; cases er6
          | ok y st10 =>
          simp only [e9] at er6
          intro ρ10 H10 x10 s10 u ru
          refine ⟨ρ10, st10, s10, ?_⟩
          cases e10 : DK.key y with
          | none => simp only [e10] at er6; cases er6
          | some kk =>
          simp only [e10] at er6
          cases e11 : mv st10 with
          | no => simp only [e11] at er6; cases er6
          | er c v s => simp only [e11] at er6; cases er6
          | ok z st11 =>
          simp only [e11] at er6
          intro ρ11 H11 x11 s11 q rq
          have x10' : Ext ρ9 (st3.with st9.ce) H9 ρ10 (st3.with st10.ce) H10 := x10.with rfl
          have x11' : Ext ρ10 (st3.with st10.ce) H10 ρ11 (st3.with st11.ce) H11 := x11.with rfl
          have G10 := G9.go hp (stw := st9) rfl x10 s10.toCells
          have G11 := G10.go hp (stw := st10) rfl x11 s11.toCells
          have s10' : Sim g ρ10 σ3 H10 (st3.with st10.ce) := s9'.back (st' := st10) (x10.ce (st0 := st3.with st9.ce) rfl) s10.toCells
          have s11' : Sim g ρ11 σ3 H11 (st3.with st11.ce) := s10'.back (st' := st11) (x11.ce (st0 := st3.with st10.ce) rfl) s11.toCells
          have up : ρ11.U p := by rw [G11.u]; exact .inr rfl
          have hl : acc6.length = dd6.length := by have := congrArg List.length G11.ks; simpa using this
          have b1 := Nat.le_trans (putE_len dd6 kk z) (dcS_len DK _ _ _ _ er6)
          have b2 := dc2S_len DK _ _ _ _ er1
          have hz3 : acc6.length < sizeLine := by
            have : (1000000 : Nat) < sizeLine := by decide
            have b1 : dd6.length ≤ dd4.length := b1
            have b2 : dd4.length ≤ xs.length := b2
            omega
          refine ⟨_, DK.put g _ H11 u q y kk acc6 p (ru.go x11) e10 G11.at' hz3, hjl, ρ11, st11.ce, _, _, G11.push hp s0.uo rq, s11'.touch up (DK.nt _), fun a o h n => ?_, er6⟩
          obtain ⟨h1, n1⟩ := k9 a o h n
          obtain ⟨h2, n2⟩ := x10'.keep a o h1 n1
          obtain ⟨h3, n3⟩ := x11'.keep a o h2 n2
          exact keep_touch (st := st3.with st11.ce) up a o h3 n3
      · have e : j = es.length := by omega
        subst e
        rw [List.drop_length] at er6
        unfold dcS at er6
        cases Option.some.inj er6
        exact .inl ⟨(hJ1 _ H6 k6 (fun a v => s6.volT v) _).2 (Nat.le_refl _), hlt, ρ6, ce4, acc6, dd4, G6, er1⟩
  · have e : i = ds.length := by omega
    subst e
    rw [List.drop_length] at er1
    unfold dc2S at er1
    cases Option.some.inj er1
    obtain ⟨q1, q2, q3⟩ := Gr.end hp s0.uo
    exact .inl ⟨(hJ _ H1 q1.keep (fun a v => q2.volT v) _).2 (Nat.le_refl _), h0 _ H1 q1 q2 _ q3⟩
end
end RE
set_option maxHeartbeats 4000000
namespace RE
open PySem PySem.Spec PyProof.Rows L2
abbrev BlkA (X : Cx) (sc : Scope) (F : Cx → Prop) : Prop := ∀ (s : Shared) (H : Hp) (C : Addr) (cl : List (Str × Addr)) (fq : List Addr), F (X.blk s H sc (compEnvC sc cl C X.env) fq)
section
variable {X : Cx} {kx vx ta ia tb ib : Expr} {fa fb : List Expr} {sc : Scope} {own : List (Str × Nat)} {vs1 : List Nat} {pos : Pos} {o0 : HO} {wi wib : TI} {ga gb : TG} {tta ttb : TT} {tk tv : TE}
theorem pe_dcB (n0 : NewD o0) (hu : X.A.units < cLine) (calm : X.calm = true) (hN : X.N.Nodup) (hi : PI X ta ia wi) (ok : BlkOk X.N X.env.scope sc own) (hv : ∀ i ∈ vs1, i ∈ own.map (·.2))
    (pga : BlkA X sc fun Y => PG Y ta ga) (pta : BlkA X sc fun Y => PTs Y fa tta) (pib : BlkA X sc fun Y => PI Y tb ib wib) (pgb : BlkA X sc fun Y => PG Y tb gb) (ptb : BlkA X sc fun Y => PTs Y fb ttb) (pk : BlkA X sc fun Y => PE Y kx tk) (pv : BlkA X sc fun Y => PE Y vx tv)
    (hs : ∀ x, foldedSetIterable ia X.env x = pure x) (fold : ∀ env x, foldedSetIterable ib env x = pure x) : PE X (dcx kx vx ta ia tb ib fa fb sc pos) (tDcB o0 wi ga tta wib gb ttb tk tv (own.map (·.2)) vs1) := by
  refine ⟨fun pn s σ H Q In h => ?_⟩
  unfold dcx
  rw [arm_eval_DictComp]
  refine dcB_run n0 hu calm hN In hi ok hv pga pta pib pgb ptb pk pv hs fold h fun p C s' m H' I' q hn f => ⟨m, hn, fun h2 sb => ?_⟩
  obtain ⟨a0, a1, a2, a3, a4, a5⟩ := f
  exact ⟨.ref p, H', I'.turned (t' := s'.toks) (fun b o hb e => (sb.2 b hb).trans e) a0 a1 a3 a4 a5, rfl, q⟩
theorem ps_setDcB {i : Nat} {y : Str} {py spos : Pos} (n0 : NewD o0) (hu : X.A.units < cLine) (calm : X.calm = true) (hN : X.N.Nodup) (hy : X.N[i]? = some y) (loc : X.env.scope.names.lookup y = some .local)
    (sw : swapsWith (dcx kx vx ta ia tb ib fa fb sc pos) (some (.Name y py)) spos.line X.env = pure true) (hi : PI X ta ia wi) (ok : BlkOk X.N X.env.scope sc own) (hv : ∀ i ∈ vs1, i ∈ own.map (·.2))
    (pga : BlkA X sc fun Y => PG Y ta ga) (pta : BlkA X sc fun Y => PTs Y fa tta) (pib : BlkA X sc fun Y => PI Y tb ib wib) (pgb : BlkA X sc fun Y => PG Y tb gb) (ptb : BlkA X sc fun Y => PTs Y fb ttb) (pk : BlkA X sc fun Y => PE Y kx tk) (pv : BlkA X sc fun Y => PE Y vx tv)
    (hs : ∀ x, foldedSetIterable ia X.env x = pure x) (fold : ∀ env x, foldedSetIterable ib env x = pure x) : PS X (.Assign [.Name y py] (dcx kx vx ta ia tb ib fa fb sc pos) spos) (tAsg (tDcB o0 wi ga tta wib gb ttb tk tv (own.map (·.2)) vs1) (gName i)) := by
  refine ⟨fun pn s σ H Dn In h => ?_⟩
  rw [exec_Assign_Name_used _ _ _ _ sw]
  refine wpAny_bind ?_
  refine wpAny_standAt (wpAny_bind ?_)
  refine wpAny_bind (thn (dcB_run (use := some (assign (.Name y py) X.env)) (Qf := fun _ s' => SP X pn Dn .next s') n0 hu calm hN In hi ok hv pga pta pib pgb ptb pk pv hs fold h fun p C s' m H' I' q hn f => ?_) fun _ s' hq => wpAny_pure (wpAny_pure hq))
  show wpAny _ _ (assign (.Name y py) X.env (.ref p)) _ _ _
  refine wpAny_assign_Name (store_ok2 (v := V.ref p) I' hN hy (.inl loc) rfl (fun s2 I2 hz => ?_) (.inr loc))
  obtain ⟨a, sb, ha⟩ := hz
  obtain ⟨a0, a1, a2, a3, a4, a5⟩ := f
  have ne : C ≠ a := ha.elim (fun z => by rw [z]; exact a1) fun z => fun e => a4 y a z e.symm
  refine ⟨m, hn.sameBut sb ne, fun h3 sb3 => ?_⟩
  exact ⟨_, H', I2.turned (t' := s2.toks) (fun b o hb e => (sb3.2 b hb).trans e) a0 a1 a3 a4 a5, q⟩
end
section
variable {κ : Type} [DecidableEq κ] {DK : DKind κ} {g : G} {ER : EK}
variable {X : Cx} {kx vx ta ia tb ib : Expr} {fa fb : List Expr} {sc : Scope} {own : List (Str × Nat)} {vs1 : List Nat} {pos : Pos} {mi mi1 : MI} {tgd tgd1 : Tg} {ga gb : TG} {is is1 : List Nat} {tt tt1 : MT} {mk mv : M}
theorem pe_mDc2 (hu : X.A.units < cLine) (calm : X.calm = true) (hN : X.N.Nodup) (hi : PI X ta ia (tMI g ER mi)) (bk : BlkOk X.N X.env.scope sc own) (hvv : ∀ i ∈ vs1, i ∈ own.map (·.2)) (ok : GOk g tgd ga is) (hv : ∀ i ∈ is, i ∈ own.map (·.2)) (ok1 : GOk g tgd1 gb is1) (hv1 : ∀ i ∈ is1, i ∈ vs1)
    (pga : BlkA X sc fun Y => PG Y ta ga) (pta : BlkA X sc fun Y => PTs Y fa (tMT g erNo tt)) (pib : BlkA X sc fun Y => PI Y tb ib (tMI g erNo mi1)) (pgb : BlkA X sc fun Y => PG Y tb gb) (ptb : BlkA X sc fun Y => PTs Y fb (tMT g erNo tt1)) (pk : BlkA X sc fun Y => PE Y kx (tM g erNo mk)) (pv : BlkA X sc fun Y => PE Y vx (tM g erNo mv))
    (hs : ∀ x, foldedSetIterable ia X.env x = pure x := by intro _; rfl) (fold : ∀ env x, foldedSetIterable ib env x = pure x := by intro _ _; rfl) :
    PE X (.DictComp kx vx [⟨ta, ia, fa, 0⟩, ⟨tb, ib, fb, 0⟩] sc pos) (tM g ER (mDc2 DK mi tgd tt mi1 tgd1 tt1 mk mv (own.map (·.2)) vs1)) := PEi (pe_dcB DK.new hu calm hN hi bk hvv pga pta pib pgb ptb pk pv hs fold) fun _ _ _ h => tM_dc2 ok hv ok1 hv1 h
theorem ps_mDc2 {i : Nat} {y : Str} {py spos : Pos} (hu : X.A.units < cLine) (calm : X.calm = true) (hN : X.N.Nodup) (hy : X.N[i]? = some y) (loc : X.env.scope.names.lookup y = some .local)
    (sw : swapsWith (.DictComp kx vx [⟨ta, ia, fa, 0⟩, ⟨tb, ib, fb, 0⟩] sc pos) (some (.Name y py)) spos.line X.env = pure true) (hi : PI X ta ia (tMI g ER mi)) (bk : BlkOk X.N X.env.scope sc own) (hvv : ∀ i ∈ vs1, i ∈ own.map (·.2)) (ok : GOk g tgd ga is) (hv : ∀ i ∈ is, i ∈ own.map (·.2)) (ok1 : GOk g tgd1 gb is1) (hv1 : ∀ i ∈ is1, i ∈ vs1)
    (pga : BlkA X sc fun Y => PG Y ta ga) (pta : BlkA X sc fun Y => PTs Y fa (tMT g erNo tt)) (pib : BlkA X sc fun Y => PI Y tb ib (tMI g erNo mi1)) (pgb : BlkA X sc fun Y => PG Y tb gb) (ptb : BlkA X sc fun Y => PTs Y fb (tMT g erNo tt1)) (pk : BlkA X sc fun Y => PE Y kx (tM g erNo mk)) (pv : BlkA X sc fun Y => PE Y vx (tM g erNo mv))
    (hs : ∀ x, foldedSetIterable ia X.env x = pure x := by intro _; rfl) (fold : ∀ env x, foldedSetIterable ib env x = pure x := by intro _ _; rfl) :
    PS X (.Assign [.Name y py] (.DictComp kx vx [⟨ta, ia, fa, 0⟩, ⟨tb, ib, fb, 0⟩] sc pos) spos) (tMS g ER (mAsg i (mDc2 DK mi tgd tt mi1 tgd1 tt1 mk mv (own.map (·.2)) vs1))) := by
  refine PSi (ps_setDcB DK.new hu calm hN hy loc sw hi bk hvv pga pta pib pgb ptb pk pv hs fold) fun E σ H h => ?_
  obtain ⟨ρ, st, s, h⟩ := h
  refine tM_dc2 ok hv ok1 hv1 ⟨ρ, st, s, (OutS.bind h).mono fun d st1 ρ1 H1 _ h1 s1 v rv => ?_⟩
  exact h1 ρ1 _ H1 (Ext.put i _) (s1.put i ⟨v, rfl, rv⟩)
end
end RE
set_option maxHeartbeats 4000000
namespace RE
open PySem PySem.Spec PyProof.Rows L2
/-- at it an iterator over the list or the tuple l stands, k items on -/
def SqIt (h : Heap) (it l : Addr) (k : Nat) (xs : Array Value) : Prop := (h.IsListIter it l k ∧ h.IsList l xs) ∨ (h.IsTupleIter it l k ∧ h.IsTuple l xs)
theorem SqIt.go {h h' : Heap} {it l : Addr} {k : Nat} {xs : Array Value} (x : SqIt h it l k xs) (e : ∀ c o, c = it ∨ c = l → h.get? c = some o → h'.get? c = some o) : SqIt h' it l k xs :=
  x.imp (fun y => ⟨y.1.at fun o z => e _ o (.inl rfl) z, y.2.at fun o z => e _ o (.inr rfl) z⟩) fun y => ⟨y.1.at fun o z => e _ o (.inl rfl) z, y.2.at fun o z => e _ o (.inr rfl) z⟩
theorem SqIt.but {h h' : Heap} {it l c : Addr} {k : Nat} {xs : Array Value} (x : SqIt h it l k xs) (sb : Heap.SameBut c h h') (n1 : it ≠ c) (n2 : l ≠ c) : SqIt h' it l k xs :=
  x.go fun d o hd z => sb.extBut d o (by rcases hd with rfl | rfl <;> assumption) z
theorem SqIt.lt {h : Heap} {it l : Addr} {k : Nat} {xs : Array Value} (x : SqIt h it l k xs) : it < h.objs.size ∧ l < h.objs.size := by
  rcases x with ⟨⟨o, e, _⟩, o', e', _⟩ | ⟨⟨o, e, _⟩, o', e', _⟩
  · exact ⟨Heap.lt_size e, Heap.lt_size e'⟩
  · exact ⟨Heap.lt_size e, Heap.lt_size e'⟩
section
variable {prog : Program} {w : World} {A : Around} {E : Value → Shared → Prop} {s : Shared}
theorem sq_next {it l : Addr} {k : Nat} {xs : Array Value} {x : Value} {Q : Value → Shared → Prop} (h : SqIt s.heap it l k xs) (ne : l ≠ it) (hx : xs[k]? = some x)
    (hQ : ∀ h', SqIt h' it l (k + 1) xs → Heap.SameBut it s.heap h' → Q x { s with heap := h' }) : wpAny (model prog w) A (Builtin.SmallTypes.nextOf (.ref it)) Q E s := by
  rcases h with ⟨a, b⟩ | ⟨a, b⟩
  · exact wpAny_nextOf_list_item a b hx fun h' q sb => hQ h' (.inl ⟨q, b.at fun o z => sb.extBut _ o ne z⟩) sb
  · exact RZ.nextOf_tuple_item a b hx fun h' q sb => hQ h' (.inr ⟨q, b.at fun o z => sb.extBut _ o ne z⟩) sb
theorem sq_end {it l : Addr} {k : Nat} {xs : Array Value} {Q : Value → Shared → Prop} (calm : A.handled = none) (h : SqIt s.heap it l k xs) (hx : xs[k]? = none)
    (hE : ∀ h' e, Heap.ExtBut it s.heap h' → (∃ o, h'.get? e = some o ∧ o.cls = .type "StopIteration") → E (.ref e) { s with heap := h' }) : wpAny (model prog w) A (Builtin.SmallTypes.nextOf (.ref it)) Q E s := by
  rcases h with ⟨a, b⟩ | ⟨a, b⟩
  · exact wpAny_nextOf_list_end calm a b hx hE
  · exact RZ.nextOf_tuple_end calm a b hx hE
/-- both sources of a zip -/
structure Zs (h : Heap) (TI i1 i2 l1 l2 : Addr) (k : Nat) (xs ys : Array Value) : Prop where
  ti : IsPair h TI (.ref i1) (.ref i2)
  a : SqIt h i1 l1 k xs
  b : SqIt h i2 l2 k ys
abbrev zkeep (z TO i1 i2 : Addr) (h h' : Heap) : Prop := ∀ c o, c ≠ z → c ≠ TO → c ≠ i1 → c ≠ i2 → h.get? c = some o → h'.get? c = some o
variable {z TI TO i1 i2 l1 l2 : Addr} {k : Nat} {xs ys : Array Value} {x y a b : Value}
/-- the first pair -/
theorem zip_first {Q : Value → Shared → Prop} (D : ZipApart z TI TO i1 i2 l1 l2) (hz : IsZip s.heap z TI TO .none) (hTO : IsPair s.heap TO a b) (S : Zs s.heap TI i1 i2 l1 l2 k xs ys) (hx : xs[k]? = some x) (hy : ys[k]? = some y)
    (hQ : ∀ h', IsZipHeld h' z TI TO s.heap.objs.size false → Zs h' TI i1 i2 l1 l2 (k + 1) xs ys → IsPair h' s.heap.objs.size x y → zkeep z TO i1 i2 s.heap h' → Q (.ref s.heap.objs.size) { s with heap := h' }) :
    wpAny (model prog w) A (Builtin.«zip.__next__» ⟨[.ref z], []⟩) (fun f t => ∃ v, f = .done (.ret v) ∧ Q v t) E s := by
  obtain ⟨ti, sa, sb⟩ := S
  show wpAny _ _ (field (.ref z) 2 >>= _) _ _ _
  refine wpAny_bind (wpAny_field hz rfl (x := .bool false) rfl ?_)
  show wpAny _ _ (field (.ref z) 3 >>= _) _ _ _
  refine wpAny_bind (wpAny_field hz rfl (x := .ref TI) rfl (wpAny_bind (wpAny_seqItems ti rfl ?_)))
  show wpAny _ _ (Builtin.SmallTypes.ownedTupleIsFree (.ref z) >>= _) _ _ _
  unfold Builtin.SmallTypes.ownedTupleIsFree
  refine wpAny_bind (wpAny_bind (wpAny_field hz rfl (x := .none) rfl (wpAny_pure ?_)))
  simp only [if_true]
  refine wpAny_bind (wpAny_rule (wpAny_bind (wpAny_field hz rfl (x := .ref TO) rfl (wpAny_bind (wpAny_setField_rec hz (by simp) fun g1 z1 s1 => ?_)))))
  replace z1 : IsZip g1 z TI TO .ellipsis := z1
  refine wpAny_bind ?_
  simp only [List.zipIdx_cons, List.zipIdx_nil, List.forIn_cons, List.forIn_nil]
  refine wpAny_bind (wpAny_bind (wpAny_onRaise ?_))
  show wpAny _ _ (Builtin.SmallTypes.nextOf (.ref i1) >>= _) _ _ _
  refine wpAny_bind (sq_next (sa.but s1 D.i1z D.l1z) D.l1i1 hx fun g2 q2 s2 => wpAny_pure ?_)
  have t2 : IsPair g2 TO a b := s2.extBut _ _ D.TOi1 (s1.extBut _ _ D.TOz hTO)
  refine wpAny_bind (wpAny_seqItems t2 rfl (wpAny_bind (wpAny_updateSeq_pair t2 fun g3 t3 s3 => ?_)))
  replace t3 : IsPair g3 TO x b := t3
  refine wpAny_bind (wpAny_letGo (wpAny_pure (wpAny_bind (wpAny_bind (wpAny_onRaise ?_)))))
  show wpAny _ _ (Builtin.SmallTypes.nextOf (.ref i2) >>= _) _ _ _
  have b3 : SqIt g3 i2 l2 k ys := ((sb.but s1 D.i2z D.l2z).but s2 D.i12.symm D.l2i1).but s3 D.TOi2.symm D.l2TO
  refine wpAny_bind (sq_next b3 D.l2i2 hy fun g4 q4 s4 => wpAny_pure ?_)
  have t4 : IsPair g4 TO x b := s4.extBut _ _ D.TOi2 t3
  refine wpAny_bind (wpAny_seqItems t4 rfl (wpAny_bind (wpAny_updateSeq_pair t4 fun g5 t5 s5 => ?_)))
  replace t5 : IsPair g5 TO x y := t5
  refine wpAny_bind (wpAny_letGo (wpAny_pure (wpAny_pure (wpAny_bind (wpAny_seqItems t5 rfl (wpAny_bind (wpAny_newTuple ?_)))))))
  have size : g5.objs.size = s.heap.objs.size := by rw [s5.1, s4.1, s3.1, s2.1, s1.1]
  have z5 : IsZip g5 z TI TO .ellipsis := s5.extBut _ _ D.TOz.symm (s4.extBut _ _ D.i2z.symm (s3.extBut _ _ D.TOz.symm (s2.extBut _ _ D.i1z.symm z1)))
  have kp : zkeep z TO i1 i2 s.heap g5 := fun c o c1 c2 c3 c4 e => s5.extBut _ _ c2 (s4.extBut _ _ c4 (s3.extBut _ _ c2 (s2.extBut _ _ c3 (s1.extBut _ _ c1 e))))
  have a5 : SqIt g5 i1 l1 (k + 1) xs := ((q2.but s3 D.TOi1.symm D.l1TO).but s4 D.i12 D.l1i2).but s5 D.TOi1.symm D.l1TO
  have b5 : SqIt g5 i2 l2 (k + 1) ys := q4.but s5 D.TOi2.symm D.l2TO
  have below : z < g5.objs.size := Heap.lt_size z5
  show wpAny _ _ (Builtin.SmallTypes.ownedTupleHandOut (.ref z) (.ref g5.objs.size) >>= _) _ _ _
  unfold Builtin.SmallTypes.ownedTupleHandOut
  have z6 : IsZip (g5.push { cls := .type "tuple", data := .seq #[x, y] }) z TI TO .ellipsis := Heap.get?_push_of_some _ z5
  refine wpAny_bind (wpAny_bind (wpAny_setField_rec z6 (by simp) fun g7 z7 s7 => ?_))
  replace z7 : IsZip g7 z TI TO (rawInt g5.objs.size) := z7
  refine wpAny_setField_rec z7 (by simp) fun g8 z8 s8 => ?_
  replace z8 : IsZip g8 z TI TO (rawInt g5.objs.size) := z8
  have up : ∀ c o, c ≠ z → g5.get? c = some o → g8.get? c = some o := fun c o n e => s8.extBut _ _ n (s7.extBut _ _ n (Heap.get?_push_of_some _ e))
  have new : IsPair g8 g5.objs.size x y := s8.extBut _ _ (Nat.ne_of_gt below) (s7.extBut _ _ (Nat.ne_of_gt below) (Heap.get?_push_size _ rfl))
  rw [size] at z8 new
  refine wpAny_pure ⟨.ref s.heap.objs.size, by rw [size], ?_⟩
  refine hQ g8 z8 ⟨up _ _ D.TIz (kp _ _ D.TIz D.TITO D.TIi1 D.TIi2 ti), a5.go fun c o hc e => up c o ?_ e, b5.go fun c o hc e => up c o ?_ e⟩ new fun c o c1 c2 c3 c4 e => up c o c1 (kp c o c1 c2 c3 c4 e)
  · rcases hc with rfl | rfl
    · exact D.i1z
    · exact D.l1z
  · rcases hc with rfl | rfl
    · exact D.i2z
    · exact D.l2z
/-- a pair behind one that is still with another -/
theorem zip_later {Q : Value → Shared → Prop} {T : Addr} {f : Bool} {oT : Obj} (D : ZipApart z TI TO i1 i2 l1 l2) (hz : IsZipHeld s.heap z TI TO T f) (hT : s.heap.get? T = some oT) (S : Zs s.heap TI i1 i2 l1 l2 k xs ys) (hx : xs[k]? = some x) (hy : ys[k]? = some y)
    (hQ : ∀ h', IsZipHeld h' z TI TO T true → Zs h' TI i1 i2 l1 l2 (k + 1) xs ys → IsPair h' s.heap.objs.size x y → zkeep z z i1 i2 s.heap h' → Q (.ref s.heap.objs.size) { s with heap := h' }) :
    wpAny (model prog w) A (Builtin.«zip.__next__» ⟨[.ref z], []⟩) (fun f t => ∃ v, f = .done (.ret v) ∧ Q v t) E s := by
  obtain ⟨ti, sa, sb⟩ := S
  show wpAny _ _ (field (.ref z) 2 >>= _) _ _ _
  refine wpAny_bind (wpAny_field hz rfl (x := .bool false) rfl ?_)
  show wpAny _ _ (field (.ref z) 3 >>= _) _ _ _
  refine wpAny_bind (wpAny_field hz rfl (x := .ref TI) rfl (wpAny_bind (wpAny_seqItems ti rfl ?_)))
  show wpAny _ _ (Builtin.SmallTypes.ownedTupleIsFree (.ref z) >>= _) _ _ _
  refine wpAny_bind (wpAny_tupleHeld_zip hz hT fun g1 z1 s1 => ?_)
  simp only [Bool.false_eq_true, if_false]
  refine wpAny_bind ?_
  rw [← Array.forIn_toList]
  simp only [List.forIn_cons, List.forIn_nil]
  refine wpAny_bind (wpAny_bind (wpAny_holding ?_))
  show wpAny _ _ (Builtin.SmallTypes.nextOf (.ref i1) >>= _) _ _ _
  refine wpAny_bind (sq_next (s := { s with heap := g1 }) (sa.but s1 D.i1z D.l1z) D.l1i1 hx fun g2 q2 s2 => wpAny_pure (wpAny_pure (wpAny_bind (wpAny_bind (wpAny_holding ?_)))))
  show wpAny _ _ (Builtin.SmallTypes.nextOf (.ref i2) >>= _) _ _ _
  refine wpAny_bind (sq_next (s := { s with heap := g2 }) ((sb.but s1 D.i2z D.l2z).but s2 D.i12.symm D.l2i1) D.l2i2 hy fun g3 q3 s3 => wpAny_pure (wpAny_pure (wpAny_pure ?_)))
  show wpAny _ _ (newTuple [x, y] >>= _) _ _ _
  refine wpAny_bind (wpAny_newTuple (wpAny_pure ⟨_, rfl, ?_⟩))
  have size : g3.objs.size = s.heap.objs.size := by rw [s3.1, s2.1, s1.1]
  have z3 : IsZipHeld g3 z TI TO T true := s3.extBut _ _ D.i2z.symm (s2.extBut _ _ D.i1z.symm z1)
  have kp : ∀ c o, c ≠ z → c ≠ i1 → c ≠ i2 → s.heap.get? c = some o → g3.get? c = some o := fun c o c1 c3 c4 e => s3.extBut _ _ c4 (s2.extBut _ _ c3 (s1.extBut _ _ c1 e))
  have a3 : SqIt g3 i1 l1 (k + 1) xs := q2.but s3 D.i12 D.l1i2
  show Q (.ref g3.objs.size) _
  have new : IsPair (g3.push { cls := .type "tuple", data := .seq #[x, y] }) g3.objs.size x y := Heap.get?_push_size _ rfl
  rw [size] at new ⊢
  exact hQ _ (Heap.get?_push_of_some _ z3) ⟨Heap.get?_push_of_some _ (kp _ _ D.TIz D.TIi1 D.TIi2 ti), a3.go fun c o _ e => Heap.get?_push_of_some _ e, q3.go fun c o _ e => Heap.get?_push_of_some _ e⟩ new fun c o c1 _ c3 c4 e => Heap.get?_push_of_some _ (kp c o c1 c3 c4 e)
end
end RE
set_option maxHeartbeats 4000000
namespace RE
open PySem PySem.Spec PyProof.Rows L2
section
variable {prog : Program} {w : World} {A : Around} {E : Value → Shared → Prop} {s : Shared}
variable {z TI TO i1 i2 l1 l2 : Addr} {k : Nat} {xs ys : Array Value} {x y a b : Value}
abbrev stopExc (h : Heap) (e : Addr) : Prop := ∃ o, h.get? e = some o ∧ o.cls = .type "StopIteration"
theorem zip_over0 {Q : Fin → Shared → Prop} (calm : A.handled = none) (D : ZipApart z TI TO i1 i2 l1 l2) (hz : IsZip s.heap z TI TO .none) (hTO : IsPair s.heap TO a b) (S : Zs s.heap TI i1 i2 l1 l2 k xs ys) (out : xs[k]? = none ∨ ys[k]? = none)
    (hE : ∀ h' e, zkeep z TO i1 i2 s.heap h' → stopExc h' e → E (.ref e) { s with heap := h' }) : wpAny (model prog w) A (Builtin.«zip.__next__» ⟨[.ref z], []⟩) Q E s := by
  obtain ⟨ti, sa, sb⟩ := S
  show wpAny _ _ (field (.ref z) 2 >>= _) _ _ _
  refine wpAny_bind (wpAny_field hz rfl (x := .bool false) rfl ?_)
  show wpAny _ _ (field (.ref z) 3 >>= _) _ _ _
  refine wpAny_bind (wpAny_field hz rfl (x := .ref TI) rfl (wpAny_bind (wpAny_seqItems ti rfl ?_)))
  show wpAny _ _ (Builtin.SmallTypes.ownedTupleIsFree (.ref z) >>= _) _ _ _
  unfold Builtin.SmallTypes.ownedTupleIsFree
  refine wpAny_bind (wpAny_bind (wpAny_field hz rfl (x := .none) rfl (wpAny_pure ?_)))
  simp only [if_true]
  refine wpAny_bind (wpAny_rule (wpAny_bind (wpAny_field hz rfl (x := .ref TO) rfl (wpAny_bind (wpAny_setField_rec hz (by simp) fun g1 z1 s1 => ?_)))))
  replace z1 : IsZip g1 z TI TO .ellipsis := z1
  refine wpAny_bind ?_
  simp only [List.zipIdx_cons, List.zipIdx_nil, List.forIn_cons, List.forIn_nil]
  refine wpAny_bind (wpAny_bind (wpAny_onRaise ?_))
  show wpAny _ _ (Builtin.SmallTypes.nextOf (.ref i1) >>= _) _ _ _
  cases hx : xs[k]? with
  | none =>
    refine wpAny_bind (sq_end calm (sa.but s1 D.i1z D.l1z) hx fun g2 e x2 he => ?_)
    obtain ⟨oe, e1, e2⟩ := he
    have z2 : IsZip g2 z TI TO .ellipsis := x2 _ _ D.i1z.symm z1
    have off : e ≠ z := fun q => by subst q; rw [z2] at e1; cases e1; simp at e2
    refine wpAny_setField_rec z2 (by simp) fun g3 _ s3 => hE g3 e (fun c o c1 _ c3 _ q => s3.extBut _ _ c1 (x2 _ _ c3 (s1.extBut _ _ c1 q))) ⟨oe, s3.extBut _ _ off e1, e2⟩
  | some x =>
    have hy : ys[k]? = none := by
      rcases out with q | q
      · rw [hx] at q; cases q
      · exact q
    refine wpAny_bind (sq_next (sa.but s1 D.i1z D.l1z) D.l1i1 hx fun g2 q2 s2 => wpAny_pure ?_)
    have t2 : IsPair g2 TO a b := s2.extBut _ _ D.TOi1 (s1.extBut _ _ D.TOz hTO)
    refine wpAny_bind (wpAny_seqItems t2 rfl (wpAny_bind (wpAny_updateSeq_pair t2 fun g3 t3 s3 => ?_)))
    refine wpAny_bind (wpAny_letGo (wpAny_pure (wpAny_bind (wpAny_bind (wpAny_onRaise ?_)))))
    show wpAny _ _ (Builtin.SmallTypes.nextOf (.ref i2) >>= _) _ _ _
    have b3 : SqIt g3 i2 l2 k ys := ((sb.but s1 D.i2z D.l2z).but s2 D.i12.symm D.l2i1).but s3 D.TOi2.symm D.l2TO
    refine wpAny_bind (sq_end calm b3 hy fun g4 e x4 he => ?_)
    obtain ⟨oe, e1, e2⟩ := he
    have z4 : IsZip g4 z TI TO .ellipsis := x4 _ _ D.i2z.symm (s3.extBut _ _ D.TOz.symm (s2.extBut _ _ D.i1z.symm z1))
    have off : e ≠ z := fun q => by subst q; rw [z4] at e1; cases e1; simp at e2
    refine wpAny_setField_rec z4 (by simp) fun g5 _ s5 => hE g5 e (fun c o c1 c2 c3 c4 q => s5.extBut _ _ c1 (x4 _ _ c4 (s3.extBut _ _ c2 (s2.extBut _ _ c3 (s1.extBut _ _ c1 q))))) ⟨oe, s5.extBut _ _ off e1, e2⟩
theorem zip_over1 {Q : Fin → Shared → Prop} {T : Addr} {f : Bool} {oT : Obj} (calm : A.handled = none) (D : ZipApart z TI TO i1 i2 l1 l2) (hz : IsZipHeld s.heap z TI TO T f) (hT : s.heap.get? T = some oT) (S : Zs s.heap TI i1 i2 l1 l2 k xs ys) (out : xs[k]? = none ∨ ys[k]? = none)
    (hE : ∀ h' e, zkeep z z i1 i2 s.heap h' → stopExc h' e → E (.ref e) { s with heap := h' }) : wpAny (model prog w) A (Builtin.«zip.__next__» ⟨[.ref z], []⟩) Q E s := by
  obtain ⟨ti, sa, sb⟩ := S
  show wpAny _ _ (field (.ref z) 2 >>= _) _ _ _
  refine wpAny_bind (wpAny_field hz rfl (x := .bool false) rfl ?_)
  show wpAny _ _ (field (.ref z) 3 >>= _) _ _ _
  refine wpAny_bind (wpAny_field hz rfl (x := .ref TI) rfl (wpAny_bind (wpAny_seqItems ti rfl ?_)))
  show wpAny _ _ (Builtin.SmallTypes.ownedTupleIsFree (.ref z) >>= _) _ _ _
  refine wpAny_bind (wpAny_tupleHeld_zip hz hT fun g1 z1 s1 => ?_)
  simp only [Bool.false_eq_true, if_false]
  refine wpAny_bind ?_
  rw [← Array.forIn_toList]
  simp only [List.forIn_cons, List.forIn_nil]
  refine wpAny_bind (wpAny_bind (wpAny_holding ?_))
  show wpAny _ _ (Builtin.SmallTypes.nextOf (.ref i1) >>= _) _ _ _
  cases hx : xs[k]? with
  | none => exact wpAny_bind (sq_end (s := { s with heap := g1 }) calm (sa.but s1 D.i1z D.l1z) hx fun g2 e x2 he => hE g2 e (fun c o c1 _ c3 _ q => x2 _ _ c3 (s1.extBut _ _ c1 q)) he)
  | some x =>
    have hy : ys[k]? = none := by
      rcases out with q | q
      · rw [hx] at q; cases q
      · exact q
    refine wpAny_bind (sq_next (s := { s with heap := g1 }) (sa.but s1 D.i1z D.l1z) D.l1i1 hx fun g2 q2 s2 => wpAny_pure (wpAny_pure (wpAny_bind (wpAny_bind (wpAny_holding ?_)))))
    show wpAny _ _ (Builtin.SmallTypes.nextOf (.ref i2) >>= _) _ _ _
    exact wpAny_bind (sq_end (s := { s with heap := g2 }) calm ((sb.but s1 D.i2z D.l2z).but s2 D.i12.symm D.l2i1) hy fun g3 e x3 he => hE g3 e (fun c o c1 _ c3 c4 q => x3 _ _ c4 (s2.extBut _ _ c3 (s1.extBut _ _ c1 q))) he)
end
end RE
set_option maxHeartbeats 4000000
namespace RE
open PySem PySem.Spec PyProof.Rows L2
section
variable {prog : Program} {w : World}
theorem Zs.go {h h' : Heap} {TI i1 i2 l1 l2 : Addr} {k : Nat} {xs ys : Array Value} (S : Zs h TI i1 i2 l1 l2 k xs ys) (e : ∀ c o, c = TI ∨ c = i1 ∨ c = i2 ∨ c = l1 ∨ c = l2 → h.get? c = some o → h'.get? c = some o) : Zs h' TI i1 i2 l1 l2 k xs ys where
  ti := e _ _ (.inl rfl) S.ti
  a := S.a.go fun c o hc q => e c o (by rcases hc with r | r; exact .inr (.inl r); exact .inr (.inr (.inr (.inl r)))) q
  b := S.b.go fun c o hc q => e c o (by rcases hc with r | r; exact .inr (.inr (.inl r)); exact .inr (.inr (.inr (.inr r)))) q
/-- at the i-th turn, with the dict at d -/
def ZSt (z TI TO i1 i2 l1 l2 d : Addr) (xs ys : Array Value) (i : Nat) (h : Heap) : Prop := Zs h TI i1 i2 l1 l2 i xs ys ∧
  ((IsZip h z TI TO .none ∧ ∃ a b, IsPair h TO a b) ∨ ∃ T f oT, IsZipHeld h z TI TO T f ∧ h.get? T = some oT ∧ T ≠ z ∧ T ≠ i1 ∧ T ≠ i2 ∧ T ≠ d)
variable {z TI TO i1 i2 l1 l2 d : Addr} {xs ys : Array Value}
theorem zsrc {A : Around} (calm : A.handled = none) (D : ZipApart z TI TO i1 i2 l1 l2) (n1 : d ≠ z) (n2 : d ≠ TI) (n3 : d ≠ TO) (n4 : d ≠ i1) (n5 : d ≠ i2) (n6 : d ≠ l1) (n7 : d ≠ l2) :
    PairSrc prog w A z d [z, TO, i1, i2] (min xs.size ys.size) (fun i k v => xs[i]? = some k ∧ ys[i]? = some v) (ZSt z TI TO i1 i2 l1 l2 d xs ys) where
  off := fun h => by
    simp only [List.mem_cons, List.not_mem_nil, or_false] at h
    rcases h with e | e | e | e <;> first | exact n1 e | exact n3 e | exact n4 e | exact n5 e
  frame := fun i h h' st kp => by
    obtain ⟨S, q⟩ := st
    refine ⟨S.go fun c o hc e => kp c o ?_ e, ?_⟩
    · rcases hc with r | r | r | r | r <;> subst r <;> first | exact n2.symm | exact n4.symm | exact n5.symm | exact n6.symm | exact n7.symm
    · rcases q with ⟨a, x, y, b⟩ | ⟨T, f, oT, a, b, c1, c2, c3, c4⟩
      · exact .inl ⟨kp _ _ n1.symm a, x, y, kp _ _ n3.symm b⟩
      · exact .inr ⟨T, f, oT, kp _ _ n1.symm a, kp _ _ c4 b, c1, c2, c3, c4⟩
  item := fun i s Q E hi st hd hQ => by
    obtain ⟨S, q⟩ := st
    have ex := Array.getElem?_eq_getElem (Nat.lt_of_lt_of_le hi (Nat.min_le_left xs.size ys.size))
    have ey := Array.getElem?_eq_getElem (Nat.lt_of_lt_of_le hi (Nat.min_le_right xs.size ys.size))
    have m1 : s.heap.objs.size ≠ i1 := Nat.ne_of_gt S.a.lt.1
    have m2 : s.heap.objs.size ≠ i2 := Nat.ne_of_gt S.b.lt.1
    unfold pyNext
    rcases q with ⟨hz, x, y, hTO⟩ | ⟨T, f, oT, hz, hT, c1, c2, c3, c4⟩
    · have ty : s.TypeIs (.ref z) "zip" := ⟨_, hz, rfl⟩
      refine wpAny_bind (wpAny_attempt (wpAny_callSpecial?_slot (name := Str.ofString "__next__") ty F.slot_zip_next (wpAny_call_entry F.slot_zip_next ty F.entry_zip_next ?_ (F.args_zip_next_1 _))))
      refine zip_first D hz hTO S ex ey fun h' z' S' new kp => wpAny_pure (hQ _ _ _ h' s.toks ⟨ex, ey⟩ (.inl ⟨_, new, rfl, _, rfl⟩) ⟨S', .inr ⟨_, _, _, z', new, Nat.ne_of_gt (Heap.lt_size hz), m1, m2, Nat.ne_of_gt hd⟩⟩ fun c o hc e => ?_)
      simp only [List.mem_cons, List.not_mem_nil, or_false, not_or] at hc
      exact kp c o hc.1 hc.2.1 hc.2.2.1 hc.2.2.2 e
    · have ty : s.TypeIs (.ref z) "zip" := ⟨_, hz, rfl⟩
      refine wpAny_bind (wpAny_attempt (wpAny_callSpecial?_slot (name := Str.ofString "__next__") ty F.slot_zip_next (wpAny_call_entry F.slot_zip_next ty F.entry_zip_next ?_ (F.args_zip_next_1 _))))
      refine zip_later D hz hT S ex ey fun h' z' S' new kp => wpAny_pure (hQ _ _ _ h' s.toks ⟨ex, ey⟩ (.inl ⟨_, new, rfl, _, rfl⟩) ⟨S', .inr ⟨T, true, oT, z', kp _ _ c1 c1 c2 c3 hT, c1, c2, c3, c4⟩⟩ fun c o hc e => ?_)
      simp only [List.mem_cons, List.not_mem_nil, or_false, not_or] at hc
      exact kp c o hc.1 hc.1 hc.2.2.1 hc.2.2.2 e
  done := fun s Q E st hQ => by
    obtain ⟨S, q⟩ := st
    have out : xs[min xs.size ys.size]? = none ∨ ys[min xs.size ys.size]? = none := by
      by_cases c : xs.size ≤ ys.size
      · left; rw [Nat.min_eq_left c]; exact Array.getElem?_eq_none (Nat.le_refl _)
      · right; rw [Nat.min_eq_right (by omega)]; exact Array.getElem?_eq_none (Nat.le_refl _)
    have stop : ∀ {h' : Heap} {e : Addr}, stopExc h' e → (∀ c o, c ∉ [z, TO, i1, i2] → s.heap.get? c = some o → h'.get? c = some o) →
        wpAny (model prog w) A (do if ← isInstance (.ref e) (.type "StopIteration") then pure none else throw (.ref e)) Q E { s with heap := h' } := fun {h' e} he kp => by
      obtain ⟨o, e1, e2⟩ := he
      refine wpAny_bind (wpAny_isInstance (T := "StopIteration") (b := true) ⟨o, e1, e2⟩ isSubtype_stop ?_)
      exact wpAny_pure (hQ h' s.toks kp)
    unfold pyNext
    rcases q with ⟨hz, x, y, hTO⟩ | ⟨T, f, oT, hz, hT, c1, c2, c3, c4⟩
    · have ty : s.TypeIs (.ref z) "zip" := ⟨_, hz, rfl⟩
      refine wpAny_bind (wpAny_attempt (wpAny_callSpecial?_slot (name := Str.ofString "__next__") ty F.slot_zip_next (wpAny_call_entry F.slot_zip_next ty F.entry_zip_next ?_ (F.args_zip_next_1 _))))
      refine zip_over0 calm D hz hTO S out fun h' e kp he => stop he fun c o hc q => ?_
      simp only [List.mem_cons, List.not_mem_nil, or_false, not_or] at hc
      exact kp c o hc.1 hc.2.1 hc.2.2.1 hc.2.2.2 q
    · have ty : s.TypeIs (.ref z) "zip" := ⟨_, hz, rfl⟩
      refine wpAny_bind (wpAny_attempt (wpAny_callSpecial?_slot (name := Str.ofString "__next__") ty F.slot_zip_next (wpAny_call_entry F.slot_zip_next ty F.entry_zip_next ?_ (F.args_zip_next_1 _))))
      refine zip_over1 calm D hz hT S out fun h' e kp he => stop he fun c o hc q => ?_
      simp only [List.mem_cons, List.not_mem_nil, or_false, not_or] at hc
      exact kp c o hc.1 hc.1 hc.2.2.1 hc.2.2.2 q
theorem zarg (D : ZipApart z TI TO i1 i2 l1 l2) (xs ys : Array Value) : PairArg prog w "zip" z [z, TI, TO, i1, i2, l1, l2] [z, TO, i1, i2] (min xs.size ys.size) (fun i k v => xs[i]? = some k ∧ ys[i]? = some v)
    (fun h => IsZip h z TI TO .none ∧ (∃ a b, IsPair h TO a b) ∧ Zs h TI i1 i2 l1 l2 0 xs ys) where
  type := fun s q => ⟨_, q.1, rfl⟩
  notDict := by decide
  keep := fun h h' q kp => ⟨kp _ _ q.1, let ⟨a, b, e⟩ := q.2.1; ⟨a, b, kp _ _ e⟩, q.2.2.go fun c o _ e => kp c o e⟩
  there := fun h q c hc => by
    obtain ⟨hz, ⟨a, b, hTO⟩, S⟩ := q
    have near : ∀ {it l : Addr} {k : Nat} {vs : Array Value}, SqIt h it l k vs → (∃ o, h.get? it = some o) ∧ ∃ o, h.get? l = some o := fun q => by
      rcases q with ⟨⟨o, e, _⟩, o', e', _⟩ | ⟨⟨o, e, _⟩, o', e', _⟩ <;> exact ⟨⟨o, e⟩, o', e'⟩
    simp only [List.mem_cons, List.not_mem_nil, or_false] at hc
    rcases hc with r | r | r | r | r | r | r <;> subst r
    · exact ⟨_, hz⟩
    · exact ⟨_, S.ti⟩
    · exact ⟨_, hTO⟩
    · exact (near S.a).1
    · exact (near S.b).1
    · exact (near S.a).2
    · exact (near S.b).2
  sub := fun c hc => by
    simp only [List.mem_cons, List.not_mem_nil, or_false] at hc ⊢
    rcases hc with r | r | r | r <;> simp [r]
  noKeys := fun A s Q E hA q h => getAttrOr_miss_zip q.1 rfl rfl rfl zip_no_keys (by decide +kernel) hA h
  iter := fun A s d Q E hA q hd far h => by
    obtain ⟨hz, ⟨a, b, hTO⟩, S⟩ := q
    simp only [List.mem_cons, List.not_mem_nil, or_false, not_or] at far
    obtain ⟨n1, n2, n3, n4, n5, n6, n7⟩ := far
    exact wpAny_pyIter_zip hz (h z [z, TO, i1, i2] (ZSt z TI TO i1 i2 l1 l2 d xs ys) s.heap s.toks (zsrc hA D n1 n2 n3 n4 n5 n6 n7) ⟨S, .inl ⟨hz, a, b, hTO⟩⟩ (fun _ _ e => e) fun c hc => .inl hc)
end
end RE
set_option maxHeartbeats 4000000
namespace RE
open PySem PySem.Spec PyProof.Rows L2
section
variable {prog : Program} {w : World} {A : Around} {E : Value → Shared → Prop} {s : Shared}
/-- a list or a tuple -/
def LoT (h : Heap) (l : Addr) (xs : Array Value) : Prop := h.IsList l xs ∨ h.IsTuple l xs
theorem LoT.lt {h : Heap} {l : Addr} {xs : Array Value} (x : LoT h l xs) : l < h.objs.size := by
  rcases x with ⟨o, e, _⟩ | ⟨o, e, _⟩ <;> exact Heap.lt_size e
abbrev mx1 (h : Heap) (o : Obj) : Heap := h.push o
abbrev mx3 (h : Heap) (o o' : Obj) : Heap := ((h.push o).push o').push { cls := .type "tuple", data := .seq #[.ref h.objs.size, .ref (h.push o).objs.size] }
abbrev mx4 (h : Heap) (o o' : Obj) : Heap := (mx3 h o o').push { cls := .type "tuple", data := .seq #[.none, .none] }
abbrev mx5 (h : Heap) (o o' : Obj) : Heap := (mx4 h o o').push { cls := .type "zip", data := .fields #[.none, .bool false, .bool false, .ref ((h.push o).push o').objs.size, .ref (mx3 h o o').objs.size] }
abbrev oL (l : Addr) : Obj := { cls := .type "list_iterator", data := .fields #[.ref l, .int 0 0] }
abbrev oT (l : Addr) : Obj := { cls := .type "tuple_iterator", data := .fields #[.ref l, .int 0 0] }
theorem meets_mixLT (l m : Addr) (xs ys : Array Value) : Meets (Builtin.«zip.__new__» ⟨[.type "zip", .ref l, .ref m], []⟩) (fun _ R s => s.heap.IsList l xs ∧ s.heap.IsTuple m ys ∧
    R (.ok (.ret (.ref (mx4 s.heap (oL l) (oT m)).objs.size))) { s with heap := mx5 s.heap (oL l) (oT m) }) :=
  .of_wp fun prog w A R s h => by
    obtain ⟨hp, g, d, tk, os⟩ := s
    obtain ⟨a, b, h⟩ := h
    have hsub := sub_zip
    have a1 : Heap.IsList (Shared.heap ⟨hp, g, d, tk, os⟩) l xs := a
    have b1 : Heap.IsTuple (Shared.heap ⟨hp.push (oL l), g, d, tk, os⟩) m ys := Heap.IsTuple.push b _
    wp_walk using wpAny_pyIter_list a1, wpAny_pyIter_tuple b1
    exact ⟨_, rfl, h⟩
theorem meets_mixTL (l m : Addr) (xs ys : Array Value) : Meets (Builtin.«zip.__new__» ⟨[.type "zip", .ref l, .ref m], []⟩) (fun _ R s => s.heap.IsTuple l xs ∧ s.heap.IsList m ys ∧
    R (.ok (.ret (.ref (mx4 s.heap (oT l) (oL m)).objs.size))) { s with heap := mx5 s.heap (oT l) (oL m) }) :=
  .of_wp fun prog w A R s h => by
    obtain ⟨hp, g, d, tk, os⟩ := s
    obtain ⟨a, b, h⟩ := h
    have hsub := sub_zip
    have a1 : Heap.IsTuple (Shared.heap ⟨hp, g, d, tk, os⟩) l xs := a
    have b1 : Heap.IsList (Shared.heap ⟨hp.push (oT l), g, d, tk, os⟩) m ys := Heap.IsList.push b _
    wp_walk using wpAny_pyIter_tuple a1, wpAny_pyIter_list b1
    exact ⟨_, rfl, h⟩
theorem mx_facts (h : Heap) (o o' : Obj) (f : o.isFreed = false) (f' : o'.isFreed = false) : (mx4 h o o').objs.size = h.objs.size + 4 ∧ IsZip (mx5 h o o') (h.objs.size + 4) (h.objs.size + 2) (h.objs.size + 3) .none ∧ IsPair (mx5 h o o') (h.objs.size + 2) (.ref h.objs.size) (.ref (h.objs.size + 1)) ∧
    IsPair (mx5 h o o') (h.objs.size + 3) .none .none ∧ (mx5 h o o').get? h.objs.size = some o ∧ (mx5 h o o').get? (h.objs.size + 1) = some o' ∧ ∀ c u, h.get? c = some u → (mx5 h o o').get? c = some u := by
  have e1 : (h.push o).objs.size = h.objs.size + 1 := Heap.size_push ..
  have e2 : ((h.push o).push o').objs.size = h.objs.size + 2 := by rw [Heap.size_push, e1]
  have e3 : (mx3 h o o').objs.size = h.objs.size + 3 := by rw [Heap.size_push, e2]
  have e4 : (mx4 h o o').objs.size = h.objs.size + 4 := by rw [Heap.size_push, e3]
  have up : ∀ {a : Heap} {b : Obj} {c : Addr} {u : Obj}, a.get? c = some u → (a.push b).get? c = some u := fun e => Heap.get?_push_of_some _ e
  have q5 : (mx5 h o o').get? (mx4 h o o').objs.size = some _ := Heap.get?_push_size _ rfl
  have q4 : (mx5 h o o').get? (mx3 h o o').objs.size = some _ := up (Heap.get?_push_size _ rfl)
  have q3 : (mx5 h o o').get? ((h.push o).push o').objs.size = some _ := up (up (Heap.get?_push_size _ rfl))
  have q2 : (mx5 h o o').get? (h.push o).objs.size = some _ := up (up (up (Heap.get?_push_size _ f')))
  have q1 : (mx5 h o o').get? h.objs.size = some _ := up (up (up (up (Heap.get?_push_size _ f))))
  rw [e2, e3, e4] at q5
  rw [e1, e2] at q3
  rw [e3] at q4
  rw [e1] at q2
  exact ⟨e4, q5, q3, q4, q1, q2, fun c u e => up (up (up (up (up e))))⟩
theorem zip_made {l m : Addr} {xs ys : Array Value} {Q : Value → Shared → Prop} (hl : LoT s.heap l xs) (hm : LoT s.heap m ys)
    (h : ∀ h', IsZip h' (s.heap.objs.size + 4) (s.heap.objs.size + 2) (s.heap.objs.size + 3) .none → (∃ a b, IsPair h' (s.heap.objs.size + 3) a b) → Zs h' (s.heap.objs.size + 2) s.heap.objs.size (s.heap.objs.size + 1) l m 0 xs ys →
      (∀ c u, s.heap.get? c = some u → h'.get? c = some u) → Q (.ref (s.heap.objs.size + 4)) { s with heap := h' }) : wpAny (model prog w) A (call (.type "zip") [.ref l, .ref m]) Q E s := by
  rcases hl with a | a <;> rcases hm with b | b
  · exact call_zip_2 a b fun h' z ti to q1 q2 _ kp => h h' z ⟨_, _, to⟩ ⟨ti, .inl ⟨q1, a.at fun o e => kp _ o e⟩, .inl ⟨q2, b.at fun o e => kp _ o e⟩⟩ kp
  · refine callType_new F.called_zip (by decide) (F.typeCall_zip_2 _ _) (F.newCall_zip_2 _ _) (fun y => F.args_object_init_3 y _ _) F.entry_zip_new (meets_mixLT l m xs ys) ⟨a, b, ?_⟩
    obtain ⟨e4, z, ti, to, q1, q2, kp⟩ := mx_facts s.heap (oL l) (oT m) rfl rfl
    show _ ∧ _
    rw [e4]
    exact ⟨⟨_, z, rfl⟩, h _ z ⟨_, _, to⟩ ⟨ti, .inl ⟨⟨_, q1, rfl, rfl⟩, a.at fun o e => kp _ o e⟩, .inr ⟨⟨_, q2, rfl, rfl⟩, b.at fun o e => kp _ o e⟩⟩ kp⟩
  · refine callType_new F.called_zip (by decide) (F.typeCall_zip_2 _ _) (F.newCall_zip_2 _ _) (fun y => F.args_object_init_3 y _ _) F.entry_zip_new (meets_mixTL l m xs ys) ⟨a, b, ?_⟩
    obtain ⟨e4, z, ti, to, q1, q2, kp⟩ := mx_facts s.heap (oT l) (oL m) rfl rfl
    show _ ∧ _
    rw [e4]
    exact ⟨⟨_, z, rfl⟩, h _ z ⟨_, _, to⟩ ⟨ti, .inr ⟨⟨_, q1, rfl, rfl⟩, a.at fun o e => kp _ o e⟩, .inl ⟨⟨_, q2, rfl, rfl⟩, b.at fun o e => kp _ o e⟩⟩ kp⟩
  · exact RZ.call_zipT a b fun h' z ti to q1 q2 _ kp => h h' z ⟨_, _, to⟩ ⟨ti, .inr ⟨q1, a.at fun o e => kp _ o e⟩, .inr ⟨q2, b.at fun o e => kp _ o e⟩⟩ kp
end
end RE
set_option maxHeartbeats 4000000
namespace RE
open PySem PySem.Spec PyProof.Rows L2
/-- pairs put one behind the other -/
def putAll (acc : List (List Key × V)) (L : List (List Key × V)) : List (List Key × V) := L.foldl (fun a p => putK a p.1 p.2) acc
theorem putAll_len : ∀ (L acc : List (List Key × V)), (putAll acc L).length ≤ acc.length + L.length
  | [], acc => Nat.le_refl _
  | p :: L, acc => by
    have h1 := putAll_len L (putK acc p.1 p.2)
    have h2 := length_putK acc p.1 p.2
    rw [List.length_cons]
    show (putAll (putK acc p.1 p.2) L).length ≤ _
    omega
theorem putAll_kt {H : Hp} : ∀ {L acc : List (List Key × V)} {ps xs : List (List Key × Addr × Value)}, L2.KT H acc xs → L2.KT H L ps → L2.KT H (putAll acc L) (storedAllH xs ps)
  | [], acc, _, xs, r, .nil => r
  | p :: L, acc, _, xs, r, .cons (b := q) h t => by
    show L2.KT H (putAll (putK acc p.1 p.2) L) (storedAllH (storedH xs q.1 q.2.1 q.2.2) _)
    rw [← h.1]
    exact putAll_kt (r.put p.1 h.2.1 h.2.2) t
/-- the keys xs and the values ys are the pairs L -/
def Zd (H : Hp) (xs ys : List V) (L : List (List Key × V)) : Prop := Paired (fun (x : V) (p : List Key × V) => ∃ c, x = V.ref c ∧ H c = some (.tup (p.1.map kV))) xs L ∧ L.map (·.2) = ys
theorem Zd.vals {H : Hp} : ∀ {xs ys : List V} {L : List (List Key × V)} {us rs : List Value}, Zd H xs ys L → Vals xs us → Vals ys rs →
    ∃ ps : List (List Key × Addr × Value), L2.KT H L ps ∧ ps.length = us.length ∧ us.length = rs.length ∧ ∀ (i : Nat) k v, us[i]? = some k → rs[i]? = some v → ∃ kk b, ps[i]? = some (kk, b, v) ∧ k = .ref b := by
  intro xs ys L
  induction xs generalizing ys L with
  | nil =>
    intro us rs h r1 r2
    obtain ⟨h, e⟩ := h
    cases h
    subst e
    cases r1
    cases r2
    exact ⟨[], .nil, rfl, rfl, fun i k v e => by simp at e⟩
  | cons x xs ih =>
    intro us rs h r1 r2
    obtain ⟨h, e⟩ := h
    cases h with
    | @cons _ p _ L hd tl =>
      subst e
      obtain ⟨c, rfl, hc⟩ := hd
      cases r1 with
      | @cons _ u _ us r1 t1 =>
        cases r2 with
        | @cons _ r _ rs r2 t2 =>
          obtain rfl : u = Value.ref c := r1
          obtain ⟨ps, k1, k2, k3, k4⟩ := ih ⟨tl, rfl⟩ t1 t2
          refine ⟨(p.1, c, r) :: ps, .cons ⟨rfl, hc, r2⟩ k1, by simp [k2], by simp [k3], fun i k v e1 e2 => ?_⟩
          cases i with
          | zero =>
            cases Option.some.inj e1
            cases Option.some.inj e2
            exact ⟨p.1, c, rfl, rfl⟩
          | succ i => exact k4 i k v (by simpa using e1) (by simpa using e2)
def rZipD (K : PySem.W.Frag) : List V → Hp → VK → Prop := fun vs H Q => ∃ (a b : Addr) (xs ys : List V) (L : List (List Key × V)), vs = [V.ref a, V.ref b] ∧ (SqL K H a xs ∨ SqT K H a xs) ∧ (SqL K H b ys ∨ SqT K H b ys) ∧ Zd H xs ys L ∧
  ∀ p, H p = none → Q (.ref p) (upd H p (.dT (putAll [] L)))
section
variable {X : Cx}
theorem lot_of {pq : List (Addr × Obj)} {σ : L2.St} {H : Hp} {s : Shared} {a : Addr} {xs : List V} (I : Inv X pq σ H s) (h : SqL X.K H a xs ∨ SqT X.K H a xs) : ∃ us : List Value, Vals xs us ∧ LoT s.heap a us.toArray ∧ us.length ≤ sizeLine := by
  rcases h with h | h
  · obtain ⟨us, r, pl, z⟩ := I.list h
    exact ⟨us, r, .inl pl.isList, by first | simpa using z | (rw [← r.length]; simpa using z)⟩
  · obtain ⟨us, r, pl, z⟩ := I.tuple h
    exact ⟨us, r, .inr pl, by first | simpa using z | (rw [← r.length]; simpa using z)⟩
theorem cr_zipD (hu : X.A.units + 64 < cLine) (calm : X.calm = true) {pq : List (Addr × Obj)} {σ : L2.St} {H : Hp} {s : Shared} {Q : VK} {a b : Addr} {xs ys : List V} {L : List (List Key × V)} {E : Value → Shared → Prop} (I : Inv X pq σ H s)
    (ha : SqL X.K H a xs ∨ SqT X.K H a xs) (hb : SqL X.K H b ys ∨ SqT X.K H b ys) (z : Zd H xs ys L) (q : ∀ p, H p = none → Q (.ref p) (upd H p (.dT (putAll [] L)))) :
    wpAny (model X.prog X.w) X.A (call (.type "zip") [.ref a, .ref b]) (fun v t => wpAny (model X.prog X.w) X.A (call (.type "dict") [v]) (EP X pq σ Q) E t) E s := by
  obtain ⟨us, r1, l1, z1⟩ := lot_of I ha
  obtain ⟨rs, r2, l2, z2⟩ := lot_of I hb
  obtain ⟨ps, k1, k2, k3, k4⟩ := z.vals r1 r2
  refine zip_made l1 l2 fun h' hz hto S kp => ?_
  have I1 : Inv X pq σ H { s with heap := h' } := I.kept (t' := s.toks) kp
  have D := PySem.W.ktu_apart s.heap.objs.size a b l1.lt l2.lt
  have big : s.heap.objs.size + 4 < h'.objs.size := Heap.lt_size hz
  have near : ∀ {c : Addr} {o : Obj}, s.heap.get? c = some o → c ∉ [s.heap.objs.size + 4, s.heap.objs.size + 3, s.heap.objs.size, s.heap.objs.size + 1] := fun {c o} e m => by
    have lt : c < s.heap.objs.size := Heap.lt_size e
    have lt : (c : Nat) < s.heap.objs.size := lt
    simp only [List.mem_cons, List.not_mem_nil, or_false] at m
    rcases m with m | m | m | m
    · exact Nat.ne_of_lt (Nat.lt_of_lt_of_le lt (Nat.le_add_right _ 4)) m
    · exact Nat.ne_of_lt (Nat.lt_of_lt_of_le lt (Nat.le_add_right _ 3)) m
    · exact Nat.ne_of_lt lt m
    · exact Nat.ne_of_lt (Nat.lt_of_lt_of_le lt (Nat.le_add_right _ 1)) m
  have mn : min us.toArray.size rs.toArray.size = us.length := by simp [k3]
  have ok : IsZip h' (s.heap.objs.size + 4) (s.heap.objs.size + 2) (s.heap.objs.size + 3) .none ∧ (∃ a b, IsPair h' (s.heap.objs.size + 3) a b) ∧ Zs h' (s.heap.objs.size + 2) s.heap.objs.size (s.heap.objs.size + 1) a b 0 us.toArray rs.toArray := ⟨hz, hto, S⟩
  refine call_dict_pairsH (s := { s with heap := h' }) (knd := tupleKind (mixKind X.prog X.w)) (ps := ps) (zarg D us.toArray rs.toArray) (I.ok.hd calm) (by show X.A.units + 1 + 1 < cLine; omega) ok ?_ ?_ (by rw [mn]; exact z1) fun h2 tk dh kp2 => ?_
  · refine ⟨by rw [mn, k2], fun i k v e => ?_⟩
    exact k4 i k v (by simpa using e.1) (by simpa using e.2)
  · intro g hk x hx
    have all : ∀ {L : List (List Key × V)} {ps : List (List Key × Addr × Value)}, L2.KT H L ps → ∀ x ∈ ps, (tupleKind (mixKind X.prog X.w)).is g x.1 x.2.1 := by
      intro L ps k
      induction k with
      | nil => intro x hx; cases hx
      | @cons p y _ _ h t ih =>
        intro x hx
        rcases List.mem_cons.mp hx with rfl | m
        · obtain ⟨_, its, r, o, e1, e2, n, e3⟩ := (show ObjOk X.prog X.w H s.heap _ (.tup (p.1.map kV)) from I.hok _ _ h.2.1)
          have lt : x.2.1 < h'.objs.size := Heap.lt_size (kp _ _ e1)
          refine ⟨o, its.toArray, n, hk _ _ (Nat.ne_of_lt lt) (near e1) (kp _ _ e1), e2, e3, ?_⟩
          rw [← h.1]
          simpa using items_are r
        · exact ih x m
    exact all k1 x hx
  · have fresh : s.heap.objs.size ≤ h'.objs.size := by have := big; omega
    have nm : (h'.objs.size == sysModules) = false := beq_eq_false_iff_ne.mpr (Nat.ne_of_gt I1.big)
    have len : (putAll [] L).length ≤ sizeLine := by
      have e1 := putAll_len L []
      have e2 : L.length = ps.length := Paired.length k1
      rw [List.length_nil] at e1
      omega
    have kt := putAll_kt (acc := []) (xs := []) .nil k1
    obtain ⟨o, es, ep, q1, q2, q3, q4, _, q5⟩ := dh
    refine ⟨.ref _, upd H h'.objs.size (.dT (putAll [] L)), I.laid (t' := tk) (fun c o e => kp2 c o (near e) (kp c o e)) fresh ⟨len, nm, _, kt.keeps fun c vs e => ?_, o, es, ep, q1, q2, q3, q4, q5⟩, rfl, q _ (I.hok.fresh fresh)⟩
    rw [upd_ne (ne_of_none e (I.hok.fresh fresh))]
    exact e
end
end RE
set_option maxHeartbeats 4000000
namespace RE
open PySem PySem.Spec PyProof.Rows L2
def putAllD (acc : List (List Key × D)) (L : List (List Key × D)) : List (List Key × D) := L.foldl (fun a p => putE a p.1 p.2) acc
theorem putAllD_ok {g : G} {A : Addr → Prop} {H : Hp} : ∀ {L : List (List Key × V)} {M : List (List Key × D)} {a : List (List Key × V)} {b : List (List Key × D)}, a.map (·.1) = b.map (·.1) → RpA g A H (a.map (·.2)) (b.map (·.2)) → L.map (·.1) = M.map (·.1) → RpA g A H (L.map (·.2)) (M.map (·.2)) →
    (putAll a L).map (·.1) = (putAllD b M).map (·.1) ∧ RpA g A H ((putAll a L).map (·.2)) ((putAllD b M).map (·.2))
  | [], [], a, b, e1, r1, _, _ => ⟨e1, r1⟩
  | [], _ :: _, _, _, _, _, e, _ => by cases e
  | _ :: _, [], _, _, _, _, e, _ => by cases e
  | p :: L, q :: M, a, b, e1, r1, e2, r2 => by
    obtain ⟨h1, h2⟩ := List.cons.inj e2
    obtain ⟨h3, h4⟩ := r2.uncons
    have h1 : p.1 = q.1 := h1
    obtain ⟨kp, p⟩ := p
    obtain ⟨kq, q⟩ := q
    have h1 : kp = kq := h1
    subst h1
    obtain ⟨k1, k2⟩ := putE_ok (k := kp) e1 r1 h3
    exact putAllD_ok (L := L) (M := M) k1 k2 h2 h4
def zipTD : List D → Option D
  | [a, b] => match seqD a, seqD b with
    | some ds, some es => match mapO keysD ds with
      | some ks => if ks.length = es.length then some (.dT (putAllD [] (ks.zip es))) else none
      | none => none
    | _, _ => none
  | _ => none
theorem zd_of {g : G} {A : Addr → Prop} {H : Hp} : ∀ {xs ys : List V} {ds es : List D} {ks : List (List Key)}, RpA g A H xs ds → RpA g A H ys es → mapO keysD ds = some ks → ks.length = es.length → Zd H xs ys (ks.zip ys) ∧ (ks.zip ys).map (·.1) = (ks.zip es).map (·.1) ∧ RpA g A H ((ks.zip ys).map (·.2)) ((ks.zip es).map (·.2)) := by
  intro xs ys ds es ks
  induction ds generalizing xs ys es ks with
  | nil =>
    intro r1 r2 e l
    cases Option.some.inj e
    cases es with
    | nil => rw [r1.cases_nil, r2.cases_nil]; exact ⟨⟨.nil, rfl⟩, rfl, RpA.nil⟩
    | cons _ _ => cases l
  | cons d ds ih =>
    intro r1 r2 e l
    obtain ⟨k, ks, e1, e2, rfl⟩ := mapO_cons e
    obtain ⟨x, xs, rfl, h1, h2⟩ := r1.cases_cons
    cases es with
    | nil => cases l
    | cons d2 es =>
      obtain ⟨y, ys, rfl, h3, h4⟩ := r2.cases_cons
      obtain ⟨c, hc, hh⟩ := keysD_ok h1 e1
      obtain ⟨⟨q1, q2⟩, q3, q4⟩ := ih h2 h4 e2 (Nat.succ.inj l)
      exact ⟨⟨.cons ⟨c, hc, hh⟩ q1, congrArg (y :: ·) q2⟩, congrArg (k :: ·) q3, RpA.cons h3 q4⟩
theorem rop_zipT {g : G} : ROpN g (rZipD g.K) zipTD := by
  intro ρ σ st H vs ds d Q e s rs k
  unfold zipTD at e
  split at e
  · rename_i a b
    obtain ⟨v, u, rfl, r1, r2⟩ := rs.two
    split at e
    · rename_i ds es e1 e2
      obtain ⟨p, xs, rfl, s1, q1⟩ := r1.seq e1
      obtain ⟨q, ys, rfl, s2, q2⟩ := r2.seq e2
      split at e
      · rename_i ks e3
        split at e
        · rename_i l
          cases Option.some.inj e
          obtain ⟨z, k1, k2⟩ := zd_of q1 q2 e3 l
          refine ⟨p, q, xs, ys, _, rfl, s1, s2, z, fun c hc => ?_⟩
          obtain ⟨m1, m2⟩ := putAllD_ok (a := []) (b := []) rfl RpA.nil k1 k2
          obtain ⟨n1, n2, n3⟩ := pair_split m1 m2
          refine k ρ _ _ (Ext.new s hc) (s.new hc) (.dT (.inl upd_same) (s.nvol hc) n1 n2 fun i x d h1 h2 => (n3 i x d h1 h2).go (Ext.new s hc))
        · cases e
      · cases e
    · cases e
  · cases e
section
variable {X : Cx} {g : G} {ER : EK} {pos pos1 p p1 : Pos} {e1 e2 : Expr} {ta : TA} {m1 m2 : M}
theorem pe_dictZip (hu : X.A.units + 64 < cLine) (calm : X.calm = true) (hg : Gl X "dict") (hm : X.mg "dict" = none) (hg1 : Gl X "zip") (hm1 : X.mg "zip" = none) (pa : PA X [e1, e2] ta)
    (na : starEach [.Call (.Name "zip" p1) [e1, e2] [] pos1] X.env = (false, eval (.Call (.Name "zip" p1) [e1, e2] [] pos1) X.env) :: starEach [] X.env := by rfl)
    (nb : starEach [e1, e2] X.env = (false, eval e1 X.env) :: starEach [e2] X.env := by rfl) (nc : (backTo pos1 (starEach [e2] X.env)).any (·.1) = false := by rfl) :
    PE X (.Call (.Name "dict" p) [.Call (.Name "zip" p1) [e1, e2] [] pos1] [] pos) (fun σ H Q => ta σ H fun vs H1 => rZipD X.K vs H1 Q) := by
  refine ⟨fun pq s σ H Q I h => ?_⟩
  refine Call_ (ld_blt I hg hm boot_dict (callWith_type1 (args_cons ?_ na) na rfl))
  refine Call_ (ld_blt I hg1 hm1 boot_zip (callWith_type1 (thn (pa.run _ pq s σ H _ I h) fun us s1 q => ?_) nb nc))
  obtain ⟨vs, H1, I1, r1, a, b, xs, ys, L, rfl, ha, hb, z, q⟩ := q
  obtain ⟨u1, u2, rfl, ra, rb⟩ := r1.two
  obtain rfl : u1 = Value.ref a := ra
  obtain rfl : u2 = Value.ref b := rb
  exact thn (cr_zipD hu calm I1 ha hb z q) fun v t hv => args_nil hv
theorem pe_mDictZip (hK : g.K = X.K) (hu : X.A.units + 64 < cLine) (calm : X.calm = true) (hg : Gl X "dict") (hm : X.mg "dict" = none) (hg1 : Gl X "zip") (hm1 : X.mg "zip" = none) (pa : PE X e1 (tM g ER m1)) (pb : PE X e2 (tM g ER m2))
    (na : starEach [.Call (.Name "zip" p1) [e1, e2] [] pos1] X.env = (false, eval (.Call (.Name "zip" p1) [e1, e2] [] pos1) X.env) :: starEach [] X.env := by rfl)
    (nb : starEach [e1, e2] X.env = (false, eval e1 X.env) :: starEach [e2] X.env := by rfl) (nd : starEach [e2] X.env = (false, eval e2 X.env) :: starEach [] X.env := by rfl) (nc : (backTo pos1 (starEach [e2] X.env)).any (·.1) = false := by rfl) :
    PE X (.Call (.Name "dict" p) [.Call (.Name "zip" p1) [e1, e2] [] pos1] [] pos) (tM g ER (mFun zipTD (mCons m1 (mCons m2 mNil)))) :=
  PEi (pe_dictZip hu calm hg hm hg1 hm1 (pa_mCons pa (pa_mCons pb pa_mNil nd) nb) na nb nc) fun _ _ _ h => hK ▸ tM_fun rop_zipT h
end
end RE
set_option maxHeartbeats 4000000
namespace RE
open PySem PySem.Spec PyProof.Rows L2
theorem sw_trueE {k v : Expr} {cs : List Comprehension} {sc : Scope} {p q : Pos} {x : Str} {n : Nat} {env : Env} (isF : env.scope.kind = .function) (isL : env.scope.names.lookup x = some .local) (same : (q.line == p.line) = true)
    (off : (sc.names.any fun (y, z) => y == x && (z == .local || z == .cell)) = false) : swapsWith (.DictComp k v cs sc p) (some (.Name x q)) n env = pure true := by
  have e1 : env.blockKind = .function := by unfold Env.blockKind; rw [isF]; rfl
  have e2 : env.kindOf x = some .local := isL
  unfold swapsWith
  simp only [e1, e2, off, same, Expr.pos]
  rfl
end RE
set_option maxHeartbeats 4000000
namespace RE
open PySem PySem.Spec PyProof.Rows L2
def errB (K : PySem.W.Frag) (C i : Addr) (fs : List Str) : Bool := [decide (PySem.W.findIn K (.ref C) "__setattr__" = some (some (.builtin "object.__setattr__"))), decide (PySem.W.subIn K (.ref C) (.type "BaseException") = some true), decide (PySem.W.typeIn K (.ref C) = some (.type "type")), PySem.W.keepIn K (.ref C),
  decide (PySem.W.typeIn K (.ref i) = some (.type "function")), (PySem.W.clsIn K C).isSome, xfB K C, decide (PySem.W.findIn K (.ref C) "__class__" = some (some (.builtin "object.__class__"))), decide (PySem.W.specialIn K (.builtin "object.__class__") "__get__" = some (some (.builtin "getset_descriptor.__get__"))),
  decide (PySem.W.takesIn K (.builtin "object.__class__") = some true), decide (PySem.W.mroIn K C (.type "object") = some true), fs.all fun f => decide (PySem.W.findIn K (.ref C) f = some none)].all id
structure ErrOk (K : PySem.W.Frag) (C i : Addr) (fs : List Str) : Prop where
  setA : PySem.W.findIn K (.ref C) "__setattr__" = some (some (.builtin "object.__setattr__"))
  isE : PySem.W.subIn K (.ref C) (.type "BaseException") = some true
  isT : PySem.W.typeIn K (.ref C) = some (.type "type")
  kept : PySem.W.keepIn K (.ref C) = true
  fn : PySem.W.typeIn K (.ref i) = some (.type "function")
  su : SuC K C
  no : ∀ f ∈ fs, PySem.W.findIn K (.ref C) f = some none
theorem errB_ok {K : PySem.W.Frag} {C i : Addr} {fs : List Str} (h : errB K C i fs = true) : ErrOk K C i fs := by
  unfold errB at h
  simp only [List.all_cons, List.all_nil, id, Bool.and_eq_true, Bool.and_true] at h
  obtain ⟨h1, h2, h3, h4, h5, h6, h7, h8, h9, h10, h11, h12⟩ := h
  exact ⟨of_decide_eq_true h1, of_decide_eq_true h2, of_decide_eq_true h3, h4, of_decide_eq_true h5, ⟨h6, xfB_ok h7, of_decide_eq_true h8, of_decide_eq_true h9, of_decide_eq_true h10, of_decide_eq_true h11⟩, fun f hf => of_decide_eq_true (List.all_eq_true.mp h12 f hf)⟩
def exmB (K : PySem.W.Frag) (Cs : List Addr) : Bool := (List.range Cs.length).all fun i => (List.range Cs.length).all fun j => decide (PySem.W.exmOne K (.ref (Cs.getD i 0)) (.ref (Cs.getD j 0)) = some (decide (i = j)))
theorem exmB_ok {K : PySem.W.Frag} {Cs : List Addr} (h : exmB K Cs = true) (i j : Nat) (hi : i < Cs.length) (hj : j < Cs.length) : PySem.W.exmOne K (.ref (Cs.getD i 0)) (.ref (Cs.getD j 0)) = some (decide (i = j)) :=
  of_decide_eq_true (List.all_eq_true.mp (List.all_eq_true.mp h i (List.mem_range.mpr hi)) j (List.mem_range.mpr hj))
theorem funD_mk {K : PySem.W.Frag} {x qual : Str} {st : Stmt} {f : Addr} {dvs : List V} {oc : Value} {od an : Option Addr} {osl : Array (Option Value)} {dV kV doc pm cdv ct : Value} (l : K.lookup f = some ⟨oc, od, .func (PySem.W.fnOf x qual (defArgs st) (defBody st) (defScope st) dV kV doc pm an cdv ct), osl⟩)
    (c : PySem.W.codeIn K cdv qual = true) (k : PySem.W.keepIn K (.ref f) = true) (d : He.dflB K dV dvs = true) : FunD K x qual (defArgs st) (defBody st) (defScope st) dvs [] f (PySem.W.fnOf x qual (defArgs st) (defBody st) (defScope st) dV kV doc pm an cdv ct) :=
  ⟨⟨oc, od, dV, kV, doc, pm, an, cdv, ct, osl, rfl, l, c, He.dflB_ok d, .inl rfl⟩, k⟩
end RE
set_option maxHeartbeats 4000000
namespace RE
open PySem PySem.Spec PyProof.Rows L2
def cellsBody : MS := (mSeq (mAsg 5 (mBin modD (mFun intD (mCons (mVarF 3) mNil)) (mVarF 1)))
    (mPutL 2 (mVarF 5) (mBin addD (mIxB 2 (mVarF 5)) (mBin mulD (mVarF 4) (mBin addD (mVarF 3) (mC (.int 2)))))))
def cellsM : MS := (mSeq (mSetF 2 (fOr (fList (mSl (mVarF 0) mPN (mPS (mVarF 1)))) (fLst (mCons (mC (.int 0)) mNil))))
    (mSeq (mFor (miFun enumF (mCons (mSl (mVarF 0) (mPS (mVarF 1)) (mPS (mC (.int 63)))) mNil)) (tgTup [3, 4]) cellsBody)
    (mRet (mVarF 2))))
theorem cut_ints (ns : List Int) (l u : Option Int) : ∃ ms : List Int, cutD (ns.map .int) l u = ms.map .int ∧ ms.length ≤ ns.length := by
  unfold cutD
  rw [← List.map_drop, ← List.map_take]
  exact ⟨_, rfl, by rw [List.length_take, List.length_drop]; omega⟩
theorem bin_at {f : D → D → Option D} {ma mb : M} {st st1 st2 : S} {a b d : D} (h1 : ma st = .ok a st1) (h2 : mb st1 = .ok b st2) (h3 : f a b = some d) : mBin f ma mb st = .ok d st2 := by
  unfold mBin
  rw [h1]
  show bindO (mb st1) _ = _
  rw [h2]
  show optO (f a b) st2 = _
  rw [h3]
  rfl
theorem asg_at {i : Nat} {m : M} {st st1 : S} {d : D} (h : m st = .ok d st1) : mAsg i m st = .nx (st1.put i (.d d)) := by
  unfold mAsg bindS
  rw [h]
theorem seq_at {a b : MS} {st st1 : S} (h : a st = .nx st1) : mSeq a b st = b st1 := by
  unfold mSeq seqS
  rw [h]
theorem ret_at {m : M} {st st1 : S} {d : D} (h : m st = .ok d st1) : mRet m st = .rt d st1 := by
  unfold mRet bindS
  rw [h]
theorem mod1 (k : Int) : modD (.int k) (.int 1) = some (.int 0) := by
  show (if (0 : Int) < 1 then some (D.int (k % 1)) else none) = _
  rw [if_pos (by decide), Int.emod_one]
theorem mul_at (x j : Int) (h : smallI j = true) : mulD (.int x) (.int j) = some (.int (x * j)) := by
  show (if smallI j = true then some (D.int (x * j)) else none) = _
  rw [if_pos h]
theorem small_at {i : Int} (h1 : -18446744073709551616 < i) (h2 : i < 18446744073709551616) : smallI i = true := by
  unfold smallI
  rw [decide_eq_true h1, decide_eq_true h2]
  rfl
abbrev cS (ds : D) (s3 s4 s5 : Sl) (c : Int) : S := ⟨[.d ds, .d (.int 1), .rf 0, s3, s4, s5], [.l [.int c]]⟩
theorem cells_turn (ds : D) (k x c : Int) (s5 : Sl) (h0 : 0 ≤ k) (hk : k < 100) : cellsBody (cS ds (.d (.int k)) (.d (.int x)) s5 c) = .nx (cS ds (.d (.int k)) (.d (.int x)) (.d (.int 0)) (c + x * (k + 2))) := by
  have a1 : (mAsg 5 (mBin modD (mFun intD (mCons (mVarF 3) mNil)) (mVarF 1))) (cS ds (.d (.int k)) (.d (.int x)) s5 c) = .nx (cS ds (.d (.int k)) (.d (.int x)) (.d (.int 0)) c) := asg_at (bin_at rfl rfl (mod1 k))
  have a2 : (mBin mulD (mVarF 4) (mBin addD (mVarF 3) (mC (.int 2)))) (cS ds (.d (.int k)) (.d (.int x)) (.d (.int 0)) c) = .ok (.int (x * (k + 2))) (cS ds (.d (.int k)) (.d (.int x)) (.d (.int 0)) c) :=
    bin_at rfl (bin_at rfl rfl rfl) (mul_at x (k + 2) (small_at (by omega) (by omega)))
  have a3 : (mBin addD (mIxB 2 (mVarF 5)) (mBin mulD (mVarF 4) (mBin addD (mVarF 3) (mC (.int 2))))) (cS ds (.d (.int k)) (.d (.int x)) (.d (.int 0)) c) = .ok (.int (c + x * (k + 2))) (cS ds (.d (.int k)) (.d (.int x)) (.d (.int 0)) c) := bin_at rfl a2 rfl
  unfold cellsBody
  rw [seq_at a1]
  unfold mPutL bindS
  rw [a3]
  rfl
theorem cells_loop (ds : D) : ∀ (es : List Int) (k : Nat) (c : Int) (s3 s4 s5 : Sl), k + es.length ≤ 100 → ∃ c' s3' s4' s5', loopS (tgTup [3, 4]) cellsBody (enumFrom k (es.map .int)) (cS ds s3 s4 s5 c) = .nx (cS ds s3' s4' s5' c')
  | [], k, c, s3, s4, s5, _ => ⟨c, s3, s4, s5, rfl⟩
  | x :: es, k, c, s3, s4, s5, h => by
    have h : k + (es.length + 1) ≤ 100 := h
    obtain ⟨c', u3, u4, u5, e3⟩ := cells_loop ds es (k + 1) (c + x * (k + 2)) (.d (.int k)) (.d (.int x)) (.d (.int 0)) (by omega)
    refine ⟨c', u3, u4, u5, ?_⟩
    show loopS (tgTup [3, 4]) cellsBody (.tup [.int k, .int x] :: enumFrom (k + 1) (es.map .int)) _ = _
    unfold loopS
    have e1 : tgTup [3, 4] (.tup [.int k, .int x]) (cS ds s3 s4 s5 c) = some (cS ds (.d (.int k)) (.d (.int x)) s5 c) := rfl
    rw [e1]
    simp only [cells_turn ds k x c s5 (Int.natCast_nonneg k) (by omega)]
    exact e3
theorem cells1 (ns : List Int) (hl : ns.length ≤ 63) : ∃ c st, cellsM (S.start [.d (.ks (ns.map .int)), .d (.int 1)] 6 []) = .rt (.lst [.int c]) st := by
  obtain ⟨ms, em, lm⟩ := cut_ints ns (some 1) (some 63)
  have first : ∃ c, (fOr (fList (mSl (mVarF 0) mPN (mPS (mVarF 1)))) (fLst (mCons (mC (.int 0)) mNil))) (S.start [.d (.ks (ns.map .int)), .d (.int 1)] 6 []) = .ok [.int c] (S.start [.d (.ks (ns.map .int)), .d (.int 1)] 6 []) := by
    cases ns with
    | nil => exact ⟨0, rfl⟩
    | cons n ns =>
      refine ⟨n, ?_⟩
      have e : cutD ((n :: ns).map .int) none (some 1) = [.int n] := by
        unfold cutD
        have q : HT.sIx ((n :: ns).map D.int).length ((n :: ns).map D.int).length (some 1) = 1 := by
          show (if (1 : Int) < 0 then ((1 : Int) + (((n :: ns).map D.int).length : Nat)).toNat else min (1 : Int).toNat ((n :: ns).map D.int).length) = 1
          rw [if_neg (by decide), List.length_map, List.length_cons]
          show min 1 (ns.length + 1) = 1
          omega
        rw [q]
        rfl
      show bindO (optO (seqD (.lst (cutD ((n :: ns).map .int) none (some 1)))) _) _ = _
      rw [e]
      rfl
  obtain ⟨c, e⟩ := first
  obtain ⟨c', s3, s4, s5, e2⟩ := cells_loop (.ks (ns.map .int)) ms 0 c .no .no .no (by omega)
  have e1 : (mSetF 2 (fOr (fList (mSl (mVarF 0) mPN (mPS (mVarF 1)))) (fLst (mCons (mC (.int 0)) mNil)))) (S.start [.d (.ks (ns.map .int)), .d (.int 1)] 6 []) = .nx (cS (.ks (ns.map .int)) .no .no .no c) := by
    unfold mSetF bindS
    rw [e]
    rfl
  have e3 : (mFor (miFun enumF (mCons (mSl (mVarF 0) (mPS (mVarF 1)) (mPS (mC (.int 63)))) mNil)) (tgTup [3, 4]) cellsBody) (cS (.ks (ns.map .int)) .no .no .no c) = .nx (cS (.ks (ns.map .int)) s3 s4 s5 c') := by
    show loopS (tgTup [3, 4]) cellsBody (enumFrom 0 (cutD (ns.map .int) (some 1) (some 63))) (cS (.ks (ns.map .int)) .no .no .no c) = _
    rw [em]
    exact e2
  have e4 : cellsM (S.start [.d (.ks (ns.map .int)), .d (.int 1)] 6 []) = mRet (mVarF 2) (cS (.ks (ns.map .int)) s3 s4 s5 c') := by
    unfold cellsM
    rw [seq_at e1, seq_at e3]
  exact ⟨c', _, e4.trans (ret_at rfl)⟩
/-- the first number of the script with the later ones added, as the calls tell it -/
theorem cells_call (ns : List Int) (hl : ns.length ≤ 63) (st : S) : ∃ c, runD cellsM 6 [.ks (ns.map .int), .int 1] st = .ok (.lst [.int c]) st := by
  obtain ⟨c, st', e⟩ := cells1 ns hl
  refine ⟨c, ?_⟩
  have e : cellsM (S.start ([D.ks (ns.map .int), D.int 1].map .d) 6 []) = .rt (.lst [.int c]) st' := e
  unfold runD
  rw [e]
end RE
set_option maxHeartbeats 4000000
namespace RE
open PySem PySem.Spec PyProof.Rows L2
def boxM : MS := (mAsg 2 (mIfE (mB (mBin ltD (mVarF 1) (mFun lenD (mCons (mVarF 0) mNil)))) (mBin ixD (mVarF 0) (mVarF 1)) (mC (.int 0))))
def boxF (seed : Int) : MA := (fLst (mCons (mBin mulD (mFun absD (mCons (mVarF 2) mNil)) (mFun intD (mCons (mBin geD (mFun absD (mCons (mVarF 2) mNil)) (mBin powD (mC (.int 10)) (mC (.int 18)))) mNil))) (mCons (mBin addD (mBin addD (mBin modD (mFun intD (mCons (mVarF 2) mNil)) (mC (.int 2305843009213693951))) (mBin mulD (mC (.int 39373)) (mVarF 1))) (mC (.int seed))) (mCons (mC (.int 0)) mNil))))
theorem if_t {t : MT} {a b : MS} {st st1 : S} (h : t st = .ok true st1) : mIf t a b st = a st1 := by
  unfold mIf bindS
  rw [h]
  rfl
theorem if_f {t : MT} {a b : MS} {st st1 : S} (h : t st = .ok false st1) : mIf t a b st = b st1 := by
  unfold mIf bindS
  rw [h]
  rfl
theorem if_n {t : MT} {a : MS} {st st1 : S} (h : t st = .ok false st1) : mIf t a mSkip st = .nx st1 := if_f h
theorem seq_rt {a b : MS} {st st1 : S} {d : D} (h : a st = .rt d st1) : mSeq a b st = .rt d st1 := by
  unfold mSeq seqS
  rw [h]
theorem b_at {m : M} {st st1 : S} {k : Bool} (h : m st = .ok (.bl k) st1) : mB m st = .ok k st1 := by
  unfold mB bindO
  rw [h]
theorem fun_at {f : List D → Option D} {ms : MA} {st st1 : S} {ds : List D} {d : D} (h : ms st = .ok ds st1) (e : f ds = some d) : mFun f ms st = .ok d st1 := by
  unfold mFun bindO
  rw [h]
  show optO (f ds) st1 = _
  rw [e]
  rfl
theorem cons_at {m : M} {ms : MA} {st st1 st2 : S} {d : D} {ds : List D} (h : m st = .ok d st1) (e : ms st1 = .ok ds st2) : mCons m ms st = .ok (d :: ds) st2 := by
  unfold mCons
  rw [h]
  show bindO (ms st1) _ = _
  rw [e]
  rfl
theorem mod_at (i n : Int) (h : 0 < n) : modD (.int i) (.int n) = some (.int (i % n)) := by
  show (if 0 < n then some (D.int (i % n)) else none) = _
  rw [if_pos h]
theorem div_at (i n : Int) (h : 0 < n) (h2 : n < 1073741824) : divD (.int i) (.int n) = some (.int (i / n)) := by
  show (if 0 < n ∧ n < 1073741824 then some (D.int (i / n)) else none) = _
  rw [if_pos ⟨h, h2⟩]
abbrev bS (c : Int) : S := ⟨[.d (.lst [.int c]), .d (.int 0), .d (.int c)], []⟩
/-- the source made of the number c -/
theorem box_call (seed c : Int) (st : S) : ∃ a b, runFr boxM (boxF seed) 3 [.lst [.int c], .int 0] st = .ok [.int a, .int b, .int 0] st := by
  have e1 : boxM (S.start ([D.lst [.int c], D.int 0].map .d) 3 []) = .nx (bS c) := rfl
  have ab : (mFun absD (mCons (mVarF 2) mNil)) (bS c) = .ok (.int (if c < 0 then -c else c)) (bS c) := rfl
  have pw : (mBin powD (mC (.int 10)) (mC (.int 18))) (bS c) = .ok (.int 1000000000000000000) (bS c) := bin_at rfl rfl (by rfl)
  generalize hy : (if c < 0 then -c else c) = y at ab
  have ge : (mFun intD (mCons (mBin geD (mFun absD (mCons (mVarF 2) mNil)) (mBin powD (mC (.int 10)) (mC (.int 18)))) mNil)) (bS c) = .ok (.int (if (decide ((1000000000000000000 : Int) ≤ y)) then 1 else 0)) (bS c) :=
    fun_at (cons_at (bin_at ab pw rfl) rfl) rfl
  have sm : smallI (if (decide ((1000000000000000000 : Int) ≤ y)) then 1 else 0) = true := by
    cases decide ((1000000000000000000 : Int) ≤ y) <;> decide
  generalize (if (decide ((1000000000000000000 : Int) ≤ y)) then (1 : Int) else 0) = z at ge sm
  have p1 : (mBin mulD (mFun absD (mCons (mVarF 2) mNil)) (mFun intD (mCons (mBin geD (mFun absD (mCons (mVarF 2) mNil)) (mBin powD (mC (.int 10)) (mC (.int 18)))) mNil))) (bS c) = .ok (.int (y * z)) (bS c) := bin_at ab ge (mul_at y z sm)
  have p2 : (mBin addD (mBin addD (mBin modD (mFun intD (mCons (mVarF 2) mNil)) (mC (.int 2305843009213693951))) (mBin mulD (mC (.int 39373)) (mVarF 1))) (mC (.int seed))) (bS c) = .ok (.int (c % 2305843009213693951 + 39373 * 0 + seed)) (bS c) :=
    bin_at (bin_at (bin_at rfl rfl (mod_at c 2305843009213693951 (by decide))) (bin_at rfl rfl (mul_at 39373 0 (by decide))) rfl) rfl rfl
  refine ⟨y * z, c % 2305843009213693951 + 39373 * 0 + seed, ?_⟩
  have e2 : boxF seed (bS c) = .ok [.int (y * z), .int (c % 2305843009213693951 + 39373 * 0 + seed), .int 0] (bS c) := by
    unfold boxF fLst
    rw [cons_at p1 (cons_at p2 (show (mCons (mC (.int 0)) mNil) (bS c) = .ok [.int 0] (bS c) from rfl))]
    rfl
  unfold runFr
  rw [e1]
  show (match boxF seed (bS c) with
    | O.ok es _ => O.ok es st
    | _ => O.no) = _
  rw [e2]
def takeM : MS := (mSeq (mIf (mB (mBin gtD (mIxB 0 (mC (.int 0))) (mC (.int 0))))
    (mSeq (mAsg 2 (mBin modD (mFun intD (mCons (mIxB 0 (mC (.int 0))) mNil)) (mVarF 1)))
    (mSeq (mPutL 0 (mC (.int 0)) (mBin divD (mIxB 0 (mC (.int 0))) (mVarF 1)))
    (mRet (mVarF 2))))
    mSkip)
    (mSeq (mPutL 0 (mC (.int 2)) (mBin addD (mIxB 0 (mC (.int 2))) (mC (.int 1))))
    (mSeq (mAsg 3 (mBin modD (mFun intD (mCons (mBin mulD (mBin addD (mIxB 0 (mC (.int 1))) (mBin mulD (mC (.int 48271)) (mIxB 0 (mC (.int 2))))) (mBin addD (mC (.int 39373)) (mIxB 0 (mC (.int 2))))) mNil)) (mC (.int 2147483647))))
    (mSeq (mAsg 4 (mBin addD (mBin modD (mFun intD (mCons (mVarF 3) mNil)) (mC (.int 40009))) (mC (.int 7))))
    (mSeq (mAsg 5 (mBin modD (mFun intD (mCons (mBin mulD (mBin addD (mBin addD (mVarF 3) (mIxB 0 (mC (.int 2)))) (mBin divD (mIxB 0 (mC (.int 1))) (mC (.int 1000003)))) (mVarF 4)) mNil)) (mC (.int 2147483629))))
    (mRet (mBin modD (mFun intD (mCons (mBin divD (mBin modD (mFun intD (mCons (mBin addD (mBin mulD (mVarF 5) (mC (.int 48271))) (mVarF 3)) mNil)) (mC (.int 2147483587))) (mC (.int 64))) mNil)) (mVarF 1))))))))
abbrev dS (n : Int) (s2 s3 s4 s5 : Sl) (a b t : Int) : S := ⟨[.rf 0, .d (.int n), s2, s3, s4, s5], [.l [.int a, .int b, .int t]]⟩
theorem take_at (n a b t : Int) (n0 : 0 < n) (n1 : n < 1073741824) (t0 : 0 ≤ t) (t1 : t < 1000000) : ∃ v a' t' st, 0 ≤ v ∧ v < n ∧ 0 ≤ t' ∧ t' ≤ t + 1 ∧ takeM (S.start [.rf 0, .d (.int n)] 6 [.l [.int a, .int b, .int t]]) = .rt (.int v) st ∧ st.ce = [.l [.int a', .int b, .int t']] := by
  by_cases ha : 0 < a
  · have e0 : (mB (mBin gtD (mIxB 0 (mC (.int 0))) (mC (.int 0)))) (dS n .no .no .no .no a b t) = .ok true (dS n .no .no .no .no a b t) := b_at (bin_at rfl rfl (by show some (D.bl (decide (0 < a))) = _; rw [decide_eq_true ha]))
    have e1 : (mAsg 2 (mBin modD (mFun intD (mCons (mIxB 0 (mC (.int 0))) mNil)) (mVarF 1))) (dS n .no .no .no .no a b t) = .nx (dS n (.d (.int (a % n))) .no .no .no a b t) := asg_at (bin_at rfl rfl (mod_at a n n0))
    have e2 : (mPutL 0 (mC (.int 0)) (mBin divD (mIxB 0 (mC (.int 0))) (mVarF 1))) (dS n (.d (.int (a % n))) .no .no .no a b t) = .nx (dS n (.d (.int (a % n))) .no .no .no (a / n) b t) := by
      unfold mPutL bindS
      rw [bin_at (f := divD) (ma := mIxB 0 (mC (.int 0))) (mb := mVarF 1) (st := dS n (.d (.int (a % n))) .no .no .no a b t) rfl rfl (div_at a n n0 n1)]
      rfl
    refine ⟨a % n, a / n, t, dS n (.d (.int (a % n))) .no .no .no (a / n) b t, Int.emod_nonneg _ (by omega), Int.emod_lt_of_pos _ n0, t0, by omega, ?_, rfl⟩
    show takeM (dS n .no .no .no .no a b t) = _
    unfold takeM
    refine seq_rt ?_
    rw [if_t e0, seq_at e1, seq_at e2]
    exact ret_at rfl
  · have e0 : (mB (mBin gtD (mIxB 0 (mC (.int 0))) (mC (.int 0)))) (dS n .no .no .no .no a b t) = .ok false (dS n .no .no .no .no a b t) := b_at (bin_at rfl rfl (by show some (D.bl (decide (0 < a))) = _; rw [decide_eq_false ha]))
    have e1 : (mPutL 0 (mC (.int 2)) (mBin addD (mIxB 0 (mC (.int 2))) (mC (.int 1)))) (dS n .no .no .no .no a b t) = .nx (dS n .no .no .no .no a b (t + 1)) := by
      unfold mPutL bindS
      rw [bin_at (f := addD) (ma := mIxB 0 (mC (.int 2))) (mb := mC (.int 1)) (st := dS n .no .no .no .no a b t) rfl rfl (d := .int (t + 1)) rfl]
      rfl
    generalize ht : t + 1 = u at e1
    have q1 : (mBin mulD (mBin addD (mIxB 0 (mC (.int 1))) (mBin mulD (mC (.int 48271)) (mIxB 0 (mC (.int 2))))) (mBin addD (mC (.int 39373)) (mIxB 0 (mC (.int 2))))) (dS n .no .no .no .no a b u) = .ok (.int ((b + 48271 * u) * (39373 + u))) (dS n .no .no .no .no a b u) :=
      bin_at (bin_at rfl (bin_at rfl rfl (mul_at 48271 u (small_at (by omega) (by omega)))) rfl) (bin_at rfl rfl rfl) (mul_at _ _ (small_at (by omega) (by omega)))
    generalize (b + 48271 * u) * (39373 + u) = m1 at q1
    have e2 : (mAsg 3 (mBin modD (mFun intD (mCons (mBin mulD (mBin addD (mIxB 0 (mC (.int 1))) (mBin mulD (mC (.int 48271)) (mIxB 0 (mC (.int 2))))) (mBin addD (mC (.int 39373)) (mIxB 0 (mC (.int 2))))) mNil)) (mC (.int 2147483647)))) (dS n .no .no .no .no a b u) = .nx (dS n .no (.d (.int (m1 % 2147483647))) .no .no a b u) :=
      asg_at (bin_at (fun_at (cons_at q1 rfl) rfl) rfl (mod_at m1 2147483647 (by decide)))
    generalize m1 % 2147483647 = x at e2
    have e3 : (mAsg 4 (mBin addD (mBin modD (mFun intD (mCons (mVarF 3) mNil)) (mC (.int 40009))) (mC (.int 7)))) (dS n .no (.d (.int x)) .no .no a b u) = .nx (dS n .no (.d (.int x)) (.d (.int (x % 40009 + 7))) .no a b u) :=
      asg_at (bin_at (bin_at rfl rfl (mod_at x 40009 (by decide))) rfl rfl)
    have hy : smallI (x % 40009 + 7) = true := small_at (by omega) (by omega)
    generalize x % 40009 + 7 = y at e3 hy
    have q4 : (mBin mulD (mBin addD (mBin addD (mVarF 3) (mIxB 0 (mC (.int 2)))) (mBin divD (mIxB 0 (mC (.int 1))) (mC (.int 1000003)))) (mVarF 4)) (dS n .no (.d (.int x)) (.d (.int y)) .no a b u) = .ok (.int ((x + u + b / 1000003) * y)) (dS n .no (.d (.int x)) (.d (.int y)) .no a b u) :=
      bin_at (bin_at (bin_at rfl rfl rfl) (bin_at rfl rfl (div_at b 1000003 (by decide) (by decide))) rfl) rfl (mul_at _ y hy)
    generalize (x + u + b / 1000003) * y = m2 at q4
    have e4 : (mAsg 5 (mBin modD (mFun intD (mCons (mBin mulD (mBin addD (mBin addD (mVarF 3) (mIxB 0 (mC (.int 2)))) (mBin divD (mIxB 0 (mC (.int 1))) (mC (.int 1000003)))) (mVarF 4)) mNil)) (mC (.int 2147483629)))) (dS n .no (.d (.int x)) (.d (.int y)) .no a b u) = .nx (dS n .no (.d (.int x)) (.d (.int y)) (.d (.int (m2 % 2147483629))) a b u) :=
      asg_at (bin_at (fun_at (cons_at q4 rfl) rfl) rfl (mod_at m2 2147483629 (by decide)))
    generalize m2 % 2147483629 = z at e4
    have q5 : (mBin divD (mBin modD (mFun intD (mCons (mBin addD (mBin mulD (mVarF 5) (mC (.int 48271))) (mVarF 3)) mNil)) (mC (.int 2147483587))) (mC (.int 64))) (dS n .no (.d (.int x)) (.d (.int y)) (.d (.int z)) a b u) = .ok (.int ((z * 48271 + x) % 2147483587 / 64)) (dS n .no (.d (.int x)) (.d (.int y)) (.d (.int z)) a b u) :=
      bin_at (bin_at (fun_at (cons_at (bin_at (bin_at rfl rfl (mul_at z 48271 (by decide))) rfl rfl) rfl) rfl) rfl (mod_at _ 2147483587 (by decide))) rfl (div_at _ 64 (by decide) (by decide))
    generalize (z * 48271 + x) % 2147483587 / 64 = m3 at q5
    refine ⟨m3 % n, a, u, dS n .no (.d (.int x)) (.d (.int y)) (.d (.int z)) a b u, Int.emod_nonneg _ (by omega), Int.emod_lt_of_pos _ n0, by omega, by omega, ?_, rfl⟩
    show takeM (dS n .no .no .no .no a b t) = _
    unfold takeM
    rw [seq_at (if_n e0), seq_at e1, seq_at e2, seq_at e3, seq_at e4]
    exact ret_at (bin_at (fun_at (cons_at q5 rfl) rfl) rfl (mod_at m3 n n0))
/-- one draw out of a source made of the script -/
theorem draw1 (seed : Int) (ns : List Int) (hl : ns.length ≤ 63) (n : Int) (n0 : 0 < n) (n1 : n < 1073741824) {m : M} {st : S} (hm : m st = .ok (.ks (ns.map .int)) st) (hs : st.sl.length = 1) (hc : st.ce = []) :
    ∃ v st', 0 ≤ v ∧ v < n ∧ (mCallR takeM 6 [] (rFr (fCall boxM (boxF seed) 3 (mCons (mCall cellsM 6 [] (mCons m (mCons (mC (.int 1)) mNil))) (mCons (mC (.int 0)) mNil))) (rDat (mC (.int n)) rNil))) st = .ok (.int v) st' := by
  obtain ⟨sl, ce⟩ := st
  have hc : ce = [] := hc
  subst hc
  obtain ⟨c, e1⟩ := cells_call ns hl ⟨sl, []⟩
  obtain ⟨a, b, e2⟩ := box_call seed c ⟨sl, []⟩
  obtain ⟨v, a', t', st', h1, h2, _, _, e3, e4⟩ := take_at n a b 0 n0 n1 (by decide) (by decide)
  have q1 : (mCall cellsM 6 [] (mCons m (mCons (mC (.int 1)) mNil))) ⟨sl, []⟩ = .ok (.lst [.int c]) ⟨sl, []⟩ := by
    unfold mCall
    rw [cons_at hm (show (mCons (mC (.int 1)) mNil) (S.mk sl []) = .ok [.int 1] ⟨sl, []⟩ from rfl)]
    exact e1
  have q2 : (fCall boxM (boxF seed) 3 (mCons (mCall cellsM 6 [] (mCons m (mCons (mC (.int 1)) mNil))) (mCons (mC (.int 0)) mNil))) ⟨sl, []⟩ = .ok [.int a, .int b, .int 0] ⟨sl, []⟩ := by
    unfold fCall
    rw [cons_at q1 (show (mCons (mC (.int 0)) mNil) (S.mk sl []) = .ok [.int 0] ⟨sl, []⟩ from rfl)]
    exact e2
  have q3 : (rFr (fCall boxM (boxF seed) 3 (mCons (mCall cellsM 6 [] (mCons m (mCons (mC (.int 1)) mNil))) (mCons (mC (.int 0)) mNil))) (rDat (mC (.int n)) rNil)) ⟨sl, []⟩ = .ok [.rf 0, .d (.int n)] ((S.mk sl []).addC sl.length (.l [.int a, .int b, .int 0])) := by
    unfold rFr
    rw [q2]
    rfl
  refine ⟨v, ((S.mk sl []).addC sl.length (.l [.int a, .int b, .int 0])).setC 0 (.l [.int a', .int b, .int t']), h1, h2, ?_⟩
  unfold mCallR
  rw [q3]
  show runR takeM 6 [.rf 0, .d (.int n)] ((S.mk sl []).addC sl.length (.l [.int a, .int b, .int 0])) = _
  unfold runR
  show (match takeM (S.start [.rf 0, .d (.int n)] 6 [.l [.int a, .int b, .int 0]]) with
    | SO.rt d st' => (match ((S.mk sl []).addC sl.length (.l [.int a, .int b, .int 0])).gets 0 st'.ce with
      | some st2 => O.ok d st2
      | none => O.no)
    | SO.nx st' => (match ((S.mk sl []).addC sl.length (.l [.int a, .int b, .int 0])).gets 0 st'.ce with
      | some st2 => O.ok D.non st2
      | none => O.no)
    | SO.er e vs st' => (match ((S.mk sl []).addC sl.length (.l [.int a, .int b, .int 0])).gets 0 st'.ce with
      | some st2 => O.er e vs st2
      | none => O.no)
    | _ => O.no) = _
  rw [e3]
  show (match ((S.mk sl []).addC sl.length (.l [.int a, .int b, .int 0])).gets 0 st'.ce with
      | some st2 => O.ok (D.int v) st2
      | none => O.no) = _
  rw [e4]
  rfl
end RE
set_option maxHeartbeats 4000000
namespace RE
open PySem PySem.Spec PyProof.Rows L2
theorem call0_at {ms : MS} {n : Nat} (h : trueS (ms (S.start [] n [])) = true) (st : S) : mCall ms n [] mNil st = .ok (.bl true) st := by
  show runD ms n [] st = _
  unfold runD
  unfold trueS at h
  split at h
  · rename_i st' e
    have e : ms (S.start (([] : List D).map .d) n []) = .rt (.bl true) st' := e
    rw [e]
  · cases h
theorem tru_at {m : M} {st st1 : S} {d : D} {b : Bool} (h : m st = .ok d st1) (e : truD d = some b) : mTru m st = .ok b st1 := by
  unfold mTru bindO
  rw [h]
  show (match truD d with
    | some b => O.ok b st1
    | none => O.no) = _
  rw [e]
theorem not_at {t : MT} {st st1 : S} {b : Bool} (h : t st = .ok b st1) : mNotT t st = .ok (!b) st1 := by
  unfold mNotT bindO
  rw [h]
theorem ifE_at {t : MT} {m n : M} {st st1 : S} {b : Bool} {o : O D} (h : t st = .ok b st1) (h1 : m st1 = o) (h2 : n st1 = o) : mIfE t m n st = o := by
  unfold mIfE bindO
  rw [h]
  cases b
  · exact h2
  · exact h1
theorem law_two {A B C : MS} {a b c : Nat} {seed : Int} (hA : trueS (A (S.start [] a [])) = true) (hB : trueS (B (S.start [] b [])) = true) (hC : trueS (C (S.start [] c [])) = true) (ns : List Int) (hl : ns.length ≤ 63) :
    trueS ((mSeq (mIf (mNotT (mTru (mCall A a [] mNil))) (mRet (mC (.bl false))) mSkip)
      (mRet (mIfE (mB (mBin eqD (mCallR takeM 6 [] (rFr (fCall boxM (boxF seed) 3 (mCons (mCall cellsM 6 [] (mCons (mVarF 0) (mCons (mC (.int 1)) mNil))) (mCons (mC (.int 0)) mNil))) (rDat (mC (.int 2)) rNil))) (mC (.int 0)))) (mCall B b [] mNil) (mCall C c [] mNil)))) (S.start [.d (.ks (ns.map .int))] 1 [])) = true := by
  have e0 : (mNotT (mTru (mCall A a [] mNil))) (S.start [.d (.ks (ns.map .int))] 1 []) = .ok false (S.start [.d (.ks (ns.map .int))] 1 []) := not_at (tru_at (call0_at hA _) rfl)
  obtain ⟨v, st', _, _, e1⟩ := draw1 seed ns hl 2 (by decide) (by decide) (m := mVarF 0) (st := S.start [.d (.ks (ns.map .int))] 1 []) rfl rfl rfl
  have e2 : (mIfE (mB (mBin eqD (mCallR takeM 6 [] (rFr (fCall boxM (boxF seed) 3 (mCons (mCall cellsM 6 [] (mCons (mVarF 0) (mCons (mC (.int 1)) mNil))) (mCons (mC (.int 0)) mNil))) (rDat (mC (.int 2)) rNil))) (mC (.int 0)))) (mCall B b [] mNil) (mCall C c [] mNil)) (S.start [.d (.ks (ns.map .int))] 1 []) = .ok (.bl true) st' :=
    ifE_at (b_at (bin_at e1 rfl rfl)) (call0_at hB st') (call0_at hC st')
  rw [seq_at (if_n e0), ret_at e2]
  rfl
end RE
set_option maxHeartbeats 4000000
namespace RE
open PySem PySem.Spec PyProof.Rows L2
theorem PG.or {X : Cx} {tg : Expr} {t u : TG} (a : PG X tg t) (b : PG X tg u) : PG X tg (fun v σ H Q => t v σ H Q ∨ u v σ H Q) :=
  ⟨fun pq s σ H x y Q I r h => h.elim (fun q => a.run pq s σ H x y Q I r q) fun q => b.run pq s σ H x y Q I r q⟩
def gTL (K : PySem.W.Frag) (n : Nat) (t : TGs) : TG := fun v σ H Q => gTup K n t v σ H Q ∨ gUnl K n t v σ H Q
theorem pg_tl {X : Cx} {es : List Expr} {k : Nat} {pos : Pos} {t : TGs} {n : Nat} (hc : X.calm = true) (h : PGs X es t) (many : (assignEach es X.env).length = n := by rfl) (flat : (assignEach es X.env).findIdx? (·.1) = none := by rfl) : PG X (.Tuple es k pos) (gTL X.K n t) := PG.or (pg_tup hc h many flat) (pg_unl hc h many flat)
def tgTL (is : List Nat) : Tg := fun d st => match d with
  | .lst ds => putsD is ds st
  | _ => tgTup is d st
theorem gok_tl {g : G} (is : List Nat) : GOk g (tgTL is) (gTL g.K is.length (gNames is)) is := by
  intro ρ σ H st x d st' Q e s r k
  have hl : ∀ (is : List Nat) (ds : List D) (st st' : S), putsD is ds st = some st' → ds.length = is.length := by
    intro is
    induction is with
    | nil => intro ds st st' h; cases ds with
      | nil => rfl
      | cons _ _ => cases h
    | cons i is ih => intro ds st st' h; cases ds with
      | nil => cases h
      | cons d ds => show ds.length + 1 = is.length + 1; rw [ih ds _ _ h]
  cases d with
  | lst ds =>
    obtain ⟨a, xs, rfl, ha, _, ra⟩ := r.inv_lst
    exact .inr ⟨a, xs, rfl, SqL.of ha, by rw [ra.1]; exact hl is ds st st' e, gok_names is ρ σ H st xs ds st' Q e s ra k⟩
  | tup ds => exact .inl (gok_tup (g := g) is ρ σ H st x (.tup ds) st' Q e s r k)
  | kt ds => exact .inl (gok_tup (g := g) is ρ σ H st x (.kt ds) st' Q e s r k)
  | _ => cases e
end RE
set_option maxHeartbeats 4000000
namespace RE
open PySem PySem.Spec PyProof.Rows L2
def keyDat : Key → D
  | .inl i => .int i
  | .inr s => .str s
theorem keyDat_rp {g : G} {A : Addr → Prop} {H : Hp} : ∀ k : Key, Rp g A H (kV k) (keyDat k)
  | .inl i => .int i
  | .inr s => .str s
theorem keysDat_rp {g : G} {A : Addr → Prop} {H : Hp} : ∀ ks : List Key, RpA g A H (ks.map kV) (ks.map keyDat)
  | [] => RpA.nil
  | k :: ks => RpA.cons (keyDat_rp k) (keysDat_rp ks)
/-- what a dict gives that is walked -/
def keysOf : D → Option (List D)
  | .dT kvs => some (kvs.map fun p => .tup (p.1.map keyDat))
  | .dK kvs => some (kvs.map fun p => keyDat p.1)
  | _ => none
def isDct : HO → Prop
  | .dK _ => True
  | .dT _ => True
  | _ => False
section
variable {g : G} {ER : EK} {ρ ρ' : Rh} {σ σ' : L2.St} {st st' : S} {H H' : Hp} {A : Addr → Prop} {d : Addr} {u : HO} {od : Obj}
theorem rd_lock {b : Addr} {v : HO} (hd : H d = some u) (hu : isDct u) (h : Rd H b v) : Rd (upd H d (.frz od u)) b v := by
  by_cases e : b = d
  · subst e
    rcases h with h | ⟨o, h⟩
    · rw [hd] at h
      cases Option.some.inj h
      exact .inr ⟨od, upd_same⟩
    · rw [hd] at h
      cases Option.some.inj h
      cases hu
  · rcases h with h | ⟨o, h⟩
    · exact .inl (by rw [upd_ne e]; exact h)
    · exact .inr ⟨o, by rw [upd_ne e]; exact h⟩
theorem Rp.lock {v : V} {x : D} (hd : H d = some u) (hu : isDct u) (r : Rp g A H v x) : Rp g A (upd H d (.frz od u)) v x := by
  have off : ∀ {b : Addr} {o : HO}, H b = some o → ¬ isDct o → b ≠ d := fun h n e => by
    subst e
    rw [hd] at h
    cases Option.some.inj h
    exact n hu
  induction r with
  | non => exact .non
  | bl b => exact .bl b
  | int i => exact .int i
  | str s => exact .str s
  | lst h na hl _ ih => exact .lst (by rw [upd_ne (off h id)]; exact h) na hl ih
  | tup h na hl _ ih => exact .tup (by rw [upd_ne (off h id)]; exact h) na hl ih
  | ktup h hl _ ih =>
    refine .ktup ?_ hl ih
    rcases h with h | ⟨o, h, e, n⟩
    · exact .inl h
    · exact .inr ⟨o, by rw [upd_ne (off h id)]; exact h, e, n⟩
  | kls h na hl _ ih => exact .kls (by rw [upd_ne (off h id)]; exact h) na hl ih
  | klw h hl _ ih => exact .klw h hl ih
  | dK h na hl hk _ ih => exact .dK (rd_lock hd hu h) na hl hk ih
  | dT h na hl hk _ ih => exact .dT (rd_lock hd hu h) na hl hk ih
  | fn i => exact .fn i
  | ob h na hl hk _ ih => exact .ob (by rw [upd_ne (off h id)]; exact h) na hl hk ih
theorem RpA.lock {v : List V} {x : List D} (hd : H d = some u) (hu : isDct u) (r : RpA g A H v x) : RpA g A (upd H d (.frz od u)) v x := ⟨r.1, fun i y e h1 h2 => (r.2 i y e h1 h2).lock hd hu⟩
theorem SlA.lock {ad : List Addr} {vs : List V} {ss : List Sl} (hd : H d = some u) (hu : isDct u) (h : SlA g A ad H vs ss) : SlA g A ad (upd H d (.frz od u)) vs ss :=
  ⟨h.1, fun i v s h1 h2 => by
    have q := h.2 i v s h1 h2
    cases s with
    | no => exact q
    | d x => exact Rp.lock hd hu q
    | rf j => exact q⟩
theorem CeOk.lock {ad : List Addr} {a : Addr} {c : Ce} (hd : H d = some u) (hu : isDct u) (ne : a ≠ d) (h : CeOk g A ad H a c) : CeOk g A ad (upd H d (.frz od u)) a c := by
  cases c with
  | dN ds => obtain ⟨xs, e, q, r, z⟩ := h; exact ⟨xs, by rw [upd_ne ne]; exact e, q, r.lock hd hu, z.lock hd hu⟩
  | rK ds => obtain ⟨xs, e, q, r⟩ := h; exact ⟨xs, by rw [upd_ne ne]; exact e, q, r⟩
  | rT ds => obtain ⟨xs, e, q, r⟩ := h; exact ⟨xs, by rw [upd_ne ne]; exact e, q, r⟩
  | o c fs => obtain ⟨dx, xs, e, q, r⟩ := h; exact ⟨dx, xs, by rw [upd_ne ne]; exact e, q, r.lock hd hu⟩
  | dead => trivial
  | l ds => obtain ⟨xs, e, r⟩ := h; exact ⟨xs, by rw [upd_ne ne]; exact e, r.lock hd hu⟩
  | dK ds => obtain ⟨xs, e, q, r⟩ := h; exact ⟨xs, by rw [upd_ne ne]; exact e, q, r.lock hd hu⟩
  | dT ds => obtain ⟨xs, e, q, r⟩ := h; exact ⟨xs, by rw [upd_ne ne]; exact e, q, r.lock hd hu⟩
theorem Sim.lock (s : Sim g ρ σ H st) (hd : H d = some u) (hu : isDct u) (nv : ¬ Vol ρ st d) : Sim g ρ σ (upd H d (.frz od u)) st where
  uok := fun a h => by
    obtain ⟨o, e, nt⟩ := s.uok a h
    exact ⟨o, by rw [upd_ne fun z => nv (by rw [← z]; exact .inl h)]; exact e, nt⟩
  clen := s.clen
  cell := fun k c a h1 h2 => by
    by_cases al : c.alive = true
    · exact (s.cell k c a h1 h2).lock hd hu fun z => nv (by rw [← z]; exact .inr ⟨k, c, h1, al, h2⟩)
    · cases c <;> first | trivial | exact absurd rfl al
  inj := s.inj
  out := s.out
  len := s.len
  slot := fun i sl v h1 h2 => by
    have q := s.slot i sl v h1 h2
    cases sl with
    | no => trivial
    | d x => obtain ⟨w, e, r⟩ := q; exact ⟨w, e, r.lock hd hu⟩
    | rf k => exact q
theorem rd_free {b : Addr} {v : HO} (hd : H d = some (.frz od u)) (hv : isDct v) (h : Rd H b v) : Rd (upd H d u) b v := by
  by_cases e : b = d
  · subst e
    rcases h with h | ⟨o, h⟩
    · rw [hd] at h
      cases Option.some.inj h
      cases hv
    · rw [hd] at h
      cases Option.some.inj h
      exact .inl upd_same
  · rcases h with h | ⟨o, h⟩
    · exact .inl (by rw [upd_ne e]; exact h)
    · exact .inr ⟨o, by rw [upd_ne e]; exact h⟩
theorem Rp.free {v : V} {x : D} (hd : H d = some (.frz od u)) (hu : isDct u) (r : Rp g A H v x) : Rp g A (upd H d u) v x := by
  have off : ∀ {b : Addr} {o : HO}, H b = some o → o ≠ .frz od u → b ≠ d := fun h n e => by
    subst e
    rw [hd] at h
    exact n (Option.some.inj h).symm
  induction r with
  | non => exact .non
  | bl b => exact .bl b
  | int i => exact .int i
  | str s => exact .str s
  | lst h na hl _ ih => exact .lst (by rw [upd_ne (off h fun z => nomatch z)]; exact h) na hl ih
  | tup h na hl _ ih => exact .tup (by rw [upd_ne (off h fun z => nomatch z)]; exact h) na hl ih
  | ktup h hl _ ih =>
    refine .ktup ?_ hl ih
    rcases h with h | ⟨o, h, e, n⟩
    · exact .inl h
    · exact .inr ⟨o, by rw [upd_ne (off h fun z => by injection z with _ z; rw [← z] at hu; exact hu)]; exact h, e, n⟩
  | kls h na hl _ ih => exact .kls (by rw [upd_ne (off h fun z => by injection z with _ z; rw [← z] at hu; exact hu)]; exact h) na hl ih
  | klw h hl _ ih => exact .klw h hl ih
  | dK h na hl hk _ ih => exact .dK (rd_free hd trivial h) na hl hk ih
  | dT h na hl hk _ ih => exact .dT (rd_free hd trivial h) na hl hk ih
  | fn i => exact .fn i
  | ob h na hl hk _ ih => exact .ob (by rw [upd_ne (off h fun z => nomatch z)]; exact h) na hl hk ih
theorem RpA.free {v : List V} {x : List D} (hd : H d = some (.frz od u)) (hu : isDct u) (r : RpA g A H v x) : RpA g A (upd H d u) v x := ⟨r.1, fun i y e h1 h2 => (r.2 i y e h1 h2).free hd hu⟩
theorem SlA.free {ad : List Addr} {vs : List V} {ss : List Sl} (hd : H d = some (.frz od u)) (hu : isDct u) (h : SlA g A ad H vs ss) : SlA g A ad (upd H d u) vs ss :=
  ⟨h.1, fun i v s h1 h2 => by
    have q := h.2 i v s h1 h2
    cases s with
    | no => exact q
    | d x => exact Rp.free hd hu q
    | rf j => exact q⟩
theorem CeOk.free {ad : List Addr} {a : Addr} {c : Ce} (hd : H d = some (.frz od u)) (hu : isDct u) (ne : a ≠ d) (h : CeOk g A ad H a c) : CeOk g A ad (upd H d u) a c := by
  cases c with
  | dN ds => obtain ⟨xs, e, q, r, z⟩ := h; exact ⟨xs, by rw [upd_ne ne]; exact e, q, r.free hd hu, z.free hd hu⟩
  | rK ds => obtain ⟨xs, e, q, r⟩ := h; exact ⟨xs, by rw [upd_ne ne]; exact e, q, r⟩
  | rT ds => obtain ⟨xs, e, q, r⟩ := h; exact ⟨xs, by rw [upd_ne ne]; exact e, q, r⟩
  | o c fs => obtain ⟨dx, xs, e, q, r⟩ := h; exact ⟨dx, xs, by rw [upd_ne ne]; exact e, q, r.free hd hu⟩
  | dead => trivial
  | l ds => obtain ⟨xs, e, r⟩ := h; exact ⟨xs, by rw [upd_ne ne]; exact e, r.free hd hu⟩
  | dK ds => obtain ⟨xs, e, q, r⟩ := h; exact ⟨xs, by rw [upd_ne ne]; exact e, q, r.free hd hu⟩
  | dT ds => obtain ⟨xs, e, q, r⟩ := h; exact ⟨xs, by rw [upd_ne ne]; exact e, q, r.free hd hu⟩
theorem Sim.free (s : Sim g ρ σ H st) (hd : H d = some (.frz od u)) (hu : isDct u) (nv : ¬ Vol ρ st d) : Sim g ρ σ (upd H d u) st where
  uok := fun a h => by
    obtain ⟨o, e, nt⟩ := s.uok a h
    exact ⟨o, by rw [upd_ne fun z => nv (by rw [← z]; exact .inl h)]; exact e, nt⟩
  clen := s.clen
  cell := fun k c a h1 h2 => by
    by_cases al : c.alive = true
    · exact (s.cell k c a h1 h2).free hd hu fun z => nv (by rw [← z]; exact .inr ⟨k, c, h1, al, h2⟩)
    · cases c <;> first | trivial | exact absurd rfl al
  inj := s.inj
  out := s.out
  len := s.len
  slot := fun i sl v h1 h2 => by
    have q := s.slot i sl v h1 h2
    cases sl with
    | no => trivial
    | d x => obtain ⟨w, e, r⟩ := q; exact ⟨w, e, r.free hd hu⟩
    | rf k => exact q
theorem Ext.free (e : Ext ρ st (upd H d (.frz od u)) ρ' st' H') (hd : H d = some u) (nv : ¬ Vol ρ st d) : Ext ρ st H ρ' st' (upd H' d u) where
  keep := fun a o h n => by
    by_cases z : a = d
    · subst z
      rw [hd] at h
      cases Option.some.inj h
      exact ⟨upd_same, (e.keep a _ upd_same n).2⟩
    · obtain ⟨h1, h2⟩ := e.keep a o (by rw [upd_ne z]; exact h) n
      exact ⟨by rw [upd_ne z]; exact h1, h2⟩
  pre := e.pre
  same := e.same
  un := fun a h => by
    have z : a ≠ d := fun z => nv (by rw [← z]; exact .inl h)
    rw [upd_ne z, e.un a h, upd_ne z]
  more := fun a v => by
    rcases e.more a v with q | q
    · exact .inl q
    · by_cases z : a = d
      · rw [z, upd_same] at q; cases q
      · rw [upd_ne z] at q; exact .inr q
  mono := fun a h => by
    by_cases z : a = d
    · rw [z, upd_same] at h; cases h
    · rw [upd_ne z] at h
      have q := e.mono a h
      rw [upd_ne z] at q
      exact q
def endL (E : Ends) (d : Addr) (od : Obj) (u : HO) : Ends := ⟨fun σ' H' => H' d = some (.frz od u) ∧ E.nx σ' (upd H' d u), fun v H' => H' d = some (.frz od u) ∧ E.rt v (upd H' d u), fun σ' H' => H' d = some (.frz od u) ∧ E.bk σ' (upd H' d u), fun σ' H' => H' d = some (.frz od u) ∧ E.ct σ' (upd H' d u)⟩
/-- the same with errors never told -/
def noEr : SO → SO
  | .er _ _ _ => .no
  | o => o
theorem OutS.locked {o : SO} {E : Ends} (hd : H d = some u) (hu : isDct u) (nv : ¬ Vol ρ st d) (h : OutS g ER ρ st H (noEr o) E) : OutS g ER ρ st (upd H d (.frz od u)) o (endL E d od u) := by
  have at' : ∀ {ρ' : Rh} {st' : S} {H' : Hp}, Ext ρ st (upd H d (.frz od u)) ρ' st' H' → H' d = some (.frz od u) ∧ ¬ Vol ρ' st' d := fun e => e.keep d _ upd_same nv
  cases o with
  | nx st' => exact fun ρ' σ' H' e s => ⟨(at' e).1, h ρ' σ' _ (e.free hd nv) (s.free (at' e).1 hu (at' e).2)⟩
  | rt x st' => exact fun ρ' σ' H' v e s r => ⟨(at' e).1, h ρ' σ' _ v (e.free hd nv) (s.free (at' e).1 hu (at' e).2) (r.free (at' e).1 hu)⟩
  | bk st' => exact fun ρ' σ' H' e s => ⟨(at' e).1, h ρ' σ' _ (e.free hd nv) (s.free (at' e).1 hu (at' e).2)⟩
  | ct st' => exact fun ρ' σ' H' e s => ⟨(at' e).1, h ρ' σ' _ (e.free hd nv) (s.free (at' e).1 hu (at' e).2)⟩
  | er c vs st' => exact h.elim
  | no => exact h.elim
theorem it_keysT {kvs : List (List Key × V)} {ds : List (List Key × D)} (h : H d = some (.frz od (.dT kvs))) (nv : ¬ Vol ρ st d) (e : kvs.map (·.1) = ds.map (·.1)) : ItOk g ρ st H (Itkt d od kvs) (ds.map fun p => .tup (p.1.map keyDat)) := fun B H' k hB i => by
  have hs := (k d _ h nv).1
  have len : kvs.length = ds.length := by have := congrArg List.length e; simpa using this
  refine ⟨fun x hx => ?_, fun hl => ⟨hs, by rw [List.length_map] at hl; omega⟩⟩
  rw [List.getElem?_map] at hx
  obtain ⟨p, hp, rfl⟩ := Option.map_eq_some_iff.mp hx
  have lt : i < kvs.length := by rw [len]; exact (List.getElem?_eq_some_iff.mp hp).1
  refine ⟨⟨hs, lt⟩, fun y H'' hy => ⟨.inl hy.1, ?_⟩⟩
  obtain ⟨e1, kk, v, q, e2, rfl, e3⟩ := hy
  subst e1
  have ek : kk = p.1 := by
    have z1 : (kvs.map (·.1))[i]? = some kk := by rw [List.getElem?_map, e2]; rfl
    have z2 : (ds.map (·.1))[i]? = some p.1 := by rw [List.getElem?_map, hp]; rfl
    rw [e, z2] at z1
    exact (Option.some.inj z1).symm
  subst ek
  refine Rp.tup' e3 (fun v => ?_) (keysDat_rp _)
  obtain ⟨o, e4, nt⟩ := hB q v
  rw [e3] at e4
  cases Option.some.inj e4
  exact nt _ rfl
theorem it_keysK {kvs : List (Key × V)} {ds : List (Key × D)} (h : H d = some (.frz od (.dK kvs))) (nv : ¬ Vol ρ st d) (e : kvs.map (·.1) = ds.map (·.1)) : ItOk g ρ st H (Itk d od kvs) (ds.map fun p => keyDat p.1) := fun B H' k hB i => by
  have hs := (k d _ h nv).1
  have len : kvs.length = ds.length := by have := congrArg List.length e; simpa using this
  refine ⟨fun x hx => ?_, fun hl => ⟨hs, by rw [List.length_map] at hl; omega⟩⟩
  rw [List.getElem?_map] at hx
  obtain ⟨p, hp, rfl⟩ := Option.map_eq_some_iff.mp hx
  have lt : i < kvs.length := by rw [len]; exact (List.getElem?_eq_some_iff.mp hp).1
  refine ⟨⟨hs, lt⟩, fun y H'' hy => ⟨.inl hy.1, ?_⟩⟩
  obtain ⟨e1, kk, v, e2, rfl⟩ := hy
  have ek : kk = p.1 := by
    have z1 : (kvs.map (·.1))[i]? = some kk := by rw [List.getElem?_map, e2]; rfl
    have z2 : (ds.map (·.1))[i]? = some p.1 := by rw [List.getElem?_map, hp]; rfl
    rw [e, z2] at z1
    exact (Option.some.inj z1).symm
  subst ek
  exact keyDat_rp _
end
def mForD (i : Nat) (tg : Tg) (body : MS) : MS := fun st => match st.sl[i]? with
  | some (.d x) => match keysOf x with
    | some ds => noEr (loopS tg body ds st)
    | none => .no
  | _ => .no
theorem PS.or {X : Cx} {s : Stmt} {t u : TS} (a : PS X s t) (b : PS X s u) : PS X s (fun E σ H => t E σ H ∨ u E σ H) := ⟨fun pq s σ H E I h => h.elim (fun q => a.run pq s σ H E I q) fun q => b.run pq s σ H E I q⟩
section
variable {X : Cx} {g : G} {ER : EK} {pos p : Pos} {x : Str}
theorem OutS.unEr {ρ : Rh} {st : S} {H : Hp} {o : SO} {E : Ends} (h : OutS g ER ρ st H (noEr o) E) : OutS g ER ρ st H o E := by
  cases o with
  | er c vs st' => exact h.elim
  | _ => exact h
theorem ps_mForD {tg : Expr} {body : List Stmt} {t : TG} {tgd : Tg} {is : List Nat} {mb : MS} {i : Nat} (hp : PassesOwn (model X.prog X.w) X.A X.env X.xe) (hc : X.calm = true) (hi : PE X (.Name x p) (tVar i)) (hg : PG X tg t) (ok : GOk g tgd t is) (hb : PSs X body (tMS g ER mb))
    (hs : ∀ y, foldedSetIterable (.Name x p) X.env y = pure y := by intro _; rfl) : PS X (.For tg (.Name x p) body [] pos) (tMS g ER (mForD i tgd mb)) := by
  refine PSi (PS.or (ps_lock (ps_for hp hc (pi_keys hi) hg hb hs)) (ps_for hp hc (pi_keys hi) hg hb hs)) fun E σ H h => ?_
  obtain ⟨ρ, st, s, h⟩ := h
  unfold mForD at h
  split at h
  case h_2 => exact h.elim
  rename_i y ey
  have lt : i < σ.length := by rw [s.len]; exact (List.getElem?_eq_some_iff.mp ey).1
  obtain ⟨v, ev, rv⟩ := s.slot i _ _ ey (List.getElem?_eq_getElem lt)
  have ev : σ[i]? = some (some v) := by rw [List.getElem?_eq_getElem lt, ev]
  split at h
  case h_2 => exact h.elim
  rename_i ds eds
  cases y with
  | dT kvs =>
    cases Option.some.inj eds
    obtain ⟨a, xs, rfl, rd, nv, ek, _⟩ := rv.inv_dT
    rcases rd with rd | ⟨o, rd⟩
    · refine .inl ⟨a, .dT xs, rd, trivial, fun od => ?_⟩
      have s1 := s.lock (od := od) rd trivial nv
      exact ⟨.ref a, ev, a, od, rfl, .inr ⟨xs, upd_same, for_core ok s1 (OutS.locked rd trivial nv h) (it_keysT upd_same nv ek)⟩⟩
    · exact .inr ⟨.ref a, ev, a, o, rfl, .inr ⟨xs, rd, for_core ok s (OutS.unEr h) (it_keysT rd nv ek)⟩⟩
  | dK kvs =>
    cases Option.some.inj eds
    obtain ⟨a, xs, rfl, rd, nv, ek, _⟩ := rv.inv_dK
    rcases rd with rd | ⟨o, rd⟩
    · refine .inl ⟨a, .dK xs, rd, trivial, fun od => ?_⟩
      have s1 := s.lock (od := od) rd trivial nv
      exact ⟨.ref a, ev, a, od, rfl, .inl ⟨xs, upd_same, for_core ok s1 (OutS.locked rd trivial nv h) (it_keysK upd_same nv ek)⟩⟩
    · exact .inr ⟨.ref a, ev, a, o, rfl, .inl ⟨xs, rd, for_core ok s (OutS.unEr h) (it_keysK rd nv ek)⟩⟩
  | _ => cases eds
/-- whatever the name holds: a dict, or what is walked item by item -/
def mForA (i : Nat) (tg : Tg) (body : MS) : MS := fun st => match st.sl[i]? with
  | some (.d (.dT _)) => mForD i tg body st
  | some (.d (.dK _)) => mForD i tg body st
  | _ => mFor (miSeq (mVarF i)) tg body st
theorem ps_mForA {tg : Expr} {body : List Stmt} {t : TG} {tgd : Tg} {is : List Nat} {mb : MS} {i : Nat} (hp : PassesOwn (model X.prog X.w) X.A X.env X.xe) (hc : X.calm = true) (hw : PI X tg (.Name x p) (tMI g ER (miSeq (mVarF i)))) (hi : PE X (.Name x p) (tVar i)) (hg : PG X tg t) (ok : GOk g tgd t is) (hb : PSs X body (tMS g ER mb))
    (hs : ∀ y, foldedSetIterable (.Name x p) X.env y = pure y := by intro _; rfl) : PS X (.For tg (.Name x p) body [] pos) (tMS g ER (mForA i tgd mb)) := by
  refine PSi (PS.or (ps_mForD hp hc hi hg ok hb hs) (ps_mFor hp hc hw hg ok hb hs)) fun E σ H h => ?_
  obtain ⟨ρ, st, s, h⟩ := h
  unfold mForA at h
  split at h
  · exact .inl ⟨ρ, st, s, h⟩
  · exact .inl ⟨ρ, st, s, h⟩
  · exact .inr ⟨ρ, st, s, h⟩
end
end RE
set_option maxHeartbeats 4000000
namespace RE
open PySem PySem.Spec PyProof.Rows L2
section
variable {K : PySem.W.Frag} {x y : Str} {st : Stmt} {f f' C C' : Addr} {d d' : FuncData} {ps : List Str} {mg : Str → Option Value} {dvs : List V}
theorem at_fun (q : f = f') (r : d = d') (h : Fun K x y st f' d') : Fun K x y st f d := by subst q r; exact h
theorem at_funD (q : f = f') (r : d = d') (h : FunD K x y (defArgs st) (defBody st) (defScope st) dvs [] f' d') : FunD K x y (defArgs st) (defBody st) (defScope st) dvs [] f d := by subst q r; exact h
theorem at_binds (r : d = d') (h : Binds K d' ps []) : Binds K d ps [] := by subst r; exact h
theorem at_bindsD (r : d = d') (h : ∃ ds, Vals dvs ds ∧ Binds K d' ps ds) : ∃ ds, Vals dvs ds ∧ Binds K d ps ds := by subst r; exact h
theorem at_mg (q : f = f') (h : mg x = some (.ref f')) : mg x = some (.ref f) := by subst q; exact h
theorem at_kw {ks : List Str} {pm : List Nat} (r : d = d') (h : KwOk K d' ps ks pm) : KwOk K d ps ks pm := by subst r; exact h
theorem at_ok {P : Program} {w : World} {base : Heap} {CX : CXT} {k : Nat} {sp : Sp} (q : f = f') (r : d = d') (h : FnOk P w K mg base CX k f d ps sp) : FnOk P w K mg base CX k f' d' ps sp := by subst q r; exact h
theorem at_errC {B : String} {bm : List Value} (q : C = C') (h : ErrC K C' B bm) : ErrC K C B bm := by subst q; exact h
theorem at_init (q : C = C') (r : f = f') (h : PySem.W.findIn K (.ref C') "__init__" = some (some (.ref f'))) : PySem.W.findIn K (.ref C) "__init__" = some (some (.ref f)) := by subst q r; exact h
theorem at_type (r : f = f') (h : PySem.W.typeIn K (.ref f') = some (.type "function")) : PySem.W.typeIn K (.ref f) = some (.type "function") := by subst r; exact h
theorem at_su (q : C = C') (h : SuC K C') : SuC K C := by subst q; exact h
theorem at_no (q : C = C') (h : PySem.W.findIn K (.ref C') x = some none) : PySem.W.findIn K (.ref C) x = some none := by subst q; exact h
theorem at_exm {D D' : Addr} {b : Bool} (q : C = C') (r : D = D') (h : PySem.W.exmOne K (.ref C') (.ref D') = some b) : PySem.W.exmOne K (.ref C) (.ref D) = some b := by subst q r; exact h
theorem at_kit {T : String} (q : C = C') (h : PySem.W.kitOne K (.ref C') (.type T) = some true) : PySem.W.kitOne K (.ref C) (.type T) = some true := by subst q; exact h
end
end RE
set_option maxHeartbeats 4000000
namespace RE
open PySem PySem.Spec PyProof.Rows L2
def shlD (a b : D) : Option D := match a, b with
  | .int i, .int j => if 0 ≤ j ∧ (Builtin.Int.intBits i : Int) + j ≤ 2 ^ 27 then some (.int (i * 2 ^ j.toNat)) else none
  | _, _ => none
theorem rop_shl {g : G} : ROp g (rI CShl fun i j => .int (i * 2 ^ j.toNat)) shlD := by
  intro ρ σ st H x y dx dy d Q e s rx ry k
  unfold shlD at e
  split at e
  · rename_i i j
    split at e
    · rename_i hz
      exact ⟨i, j, rx.inv_int, ry.inv_int, hz, k ρ H _ Ext.refl s (by rw [← Option.some.inj e]; exact .int _)⟩
    · cases e
  · cases e
def shrD (a b : D) : Option D := match a, b with
  | .int i, .int j => if 0 ≤ j then some (.int (i / 2 ^ j.toNat)) else none
  | _, _ => none
theorem rop_shr {g : G} : ROp g (rI (fun _ j => 0 ≤ j) fun i j => .int (i / 2 ^ j.toNat)) shrD := by
  intro ρ σ st H x y dx dy d Q e s rx ry k
  unfold shrD at e
  split at e
  · rename_i i j
    split at e
    · rename_i hz
      exact ⟨i, j, rx.inv_int, ry.inv_int, hz, k ρ H _ Ext.refl s (by rw [← Option.some.inj e]; exact .int _)⟩
    · cases e
  · cases e
def andD (a b : D) : Option D := match a, b with
  | .int i, .int j => some (.int (Builtin.bitAnd i j))
  | _, _ => none
theorem rop_and {g : G} : ROp g (rI0 fun i j => .int (Builtin.bitAnd i j)) andD := by
  intro ρ σ st H x y dx dy d Q e s rx ry k
  unfold andD at e
  split at e
  · rename_i i j
    exact ⟨i, j, rx.inv_int, ry.inv_int, k ρ H _ Ext.refl s (by rw [← Option.some.inj e]; exact .int _)⟩
  · cases e
def orD (a b : D) : Option D := match a, b with
  | .int i, .int j => some (.int (Builtin.bitOr i j))
  | _, _ => none
theorem rop_or {g : G} : ROp g (rI0 fun i j => .int (Builtin.bitOr i j)) orD := by
  intro ρ σ st H x y dx dy d Q e s rx ry k
  unfold orD at e
  split at e
  · rename_i i j
    exact ⟨i, j, rx.inv_int, ry.inv_int, k ρ H _ Ext.refl s (by rw [← Option.some.inj e]; exact .int _)⟩
  · cases e
def sumD : List D → Option D
  | [.lst ds] => match mapO toI ds with
    | some is => some (.int is.sum)
    | none => none
  | _ => none
theorem rop_sum {g : G} : ROpN g (rSum g.K) sumD := by
  intro ρ σ st H xs ds d Q e s rs k
  unfold sumD at e
  split at e
  · rename_i es
    obtain ⟨v, rfl, r⟩ := rs.one
    obtain ⟨a, ys, rfl, ha, _, ra⟩ := r.inv_lst
    split at e
    · rename_i is ei
      cases Option.some.inj e
      have hy := toI_all ei ra
      subst hy
      exact ⟨a, is, rfl, SqL.of ha, k ρ H _ Ext.refl s (.int _)⟩
    · cases e
  · cases e
end RE
set_option maxHeartbeats 4000000
namespace RE
open PySem PySem.Spec PyProof.Rows L2
def isDcD : D → Bool
  | .dK _ => true
  | .dT _ => true
  | _ => false
theorem getD_isD {g : G} {A : Addr → Prop} {H : Hp} {v : V} {c : D} (rc : Rp g A H v c) (e : isDcD c = true) : ∃ a, v = .ref a ∧ IsD H a := by
  cases rc with
  | dK ha _ _ _ _ => exact ⟨_, rfl, .inl ⟨_, ha⟩⟩
  | dT ha _ _ _ _ => exact ⟨_, rfl, .inr ⟨_, ha⟩⟩
  | _ => cases e
def mGet1 (mo me : M) : M := fun st => bindO (mo st) fun c st1 => if isDcD c = true then bindO (me st1) fun y st2 => match getD c y with
  | some (some r) => .ok r st2
  | some none => .ok .non st2
  | none => .no
  else .no
def mGet2 (mo me mf : M) : M := fun st => bindO (mo st) fun c st1 => if isDcD c = true then bindO (me st1) fun y st2 => bindO (mf st2) fun z st3 => match getD c y with
  | some (some r) => .ok r st3
  | some none => .ok z st3
  | none => .no
  else .no
section
variable {X : Cx} {g : G} {ER : EK} {o e f : Expr} {mo me mf : M} {apos cpos : Pos}
theorem pe_mGet1 (hu : X.A.units + 1 < cLine) (ho : PE X o (tM g ER mo)) (he : PE X e (tM g ER me)) (m : M1 X o "get" apos e cpos := by exact ⟨rfl, rfl, rfl, rfl⟩) : PE X (.Call (.Attribute o "get" apos) [e] [] cpos) (tM g ER (mGet1 mo me)) := by
  refine PEi (pe_dget1 hu ho he m) fun σ H Q h => ?_
  obtain ⟨ρ, st, s, h⟩ := h
  refine ⟨ρ, st, s, (OutC.bind h).mono fun c st1 ρ1 H1 _ h1 s1 v rv => ?_⟩
  by_cases ec : isDcD c = true
  case neg => rw [if_neg ec] at h1; exact h1.elim
  rw [if_pos ec] at h1
  obtain ⟨a, rfl, hd⟩ := getD_isD rv ec
  refine ⟨a, rfl, hd, ρ1, st1, s1, (OutC.bind h1).mono fun y st2 ρ2 H2 e2 h2 s2 u ru => ?_⟩
  cases eg : getD c y with
  | none => simp only [eg] at h2; exact h2.elim
  | some r =>
    obtain ⟨a', ov, ea, gd, hr⟩ := getD_ok (rv.go e2) ru eg
    cases ea
    refine ⟨ov, gd, ?_⟩
    rcases hr with ⟨rfl, rfl⟩ | ⟨x, w, rfl, rfl, rx⟩
    · simp only [eg] at h2
      exact h2 ρ2 H2 Ext.refl s2 _ .non
    · simp only [eg] at h2
      exact h2 ρ2 H2 Ext.refl s2 _ rx
theorem pe_mGet2 (hu : X.A.units + 1 < cLine) (ho : PE X o (tM g ER mo)) (he : PE X e (tM g ER me)) (hf : PE X f (tM g ER mf)) (m : M2 X o "get" apos e f cpos := by exact ⟨rfl, rfl, rfl, rfl⟩) : PE X (.Call (.Attribute o "get" apos) [e, f] [] cpos) (tM g ER (mGet2 mo me mf)) := by
  refine PEi (pe_dget2 hu ho he hf m) fun σ H Q h => ?_
  obtain ⟨ρ, st, s, h⟩ := h
  refine ⟨ρ, st, s, (OutC.bind h).mono fun c st1 ρ1 H1 _ h1 s1 v rv => ?_⟩
  by_cases ec : isDcD c = true
  case neg => rw [if_neg ec] at h1; exact h1.elim
  rw [if_pos ec] at h1
  obtain ⟨a, rfl, hd⟩ := getD_isD rv ec
  refine ⟨a, rfl, hd, ρ1, st1, s1, (OutC.bind h1).mono fun y st2 ρ2 H2 e2 h2 s2 u ru => ?_⟩
  refine ⟨ρ2, st2, s2, (OutC.bind h2).mono fun z st3 ρ3 H3 e3 h3 s3 w rw' => ?_⟩
  cases eg : getD c y with
  | none => simp only [eg] at h3; exact h3.elim
  | some r =>
    obtain ⟨a', ov, ea, gd, hr⟩ := getD_ok ((rv.go e2).go e3) (ru.go e3) eg
    cases ea
    refine ⟨ov, gd, ?_⟩
    rcases hr with ⟨rfl, rfl⟩ | ⟨x, w', rfl, rfl, rx⟩
    · simp only [eg] at h3
      exact h3 ρ3 H3 Ext.refl s3 _ rw'
    · simp only [eg] at h3
      exact h3 ρ3 H3 Ext.refl s3 _ rx
end
end RE
set_option maxHeartbeats 4000000
namespace RE
open PySem PySem.Spec PyProof.Rows L2
def placeI : List Int → Int → Nat → Option Nat
  | [], _, _ => none
  | n :: ns, k, j => if n = k then some j else placeI ns k (j + 1)
theorem placeI_ok : ∀ (ns : List Int) (k : Int) (i j : Nat), placeI ns k i = some j → ∃ m, j = i + m ∧ ns[m]? = some k ∧ ∀ l, l < m → ∀ z, ns[l]? = some z → z ≠ k
  | [], k, i, j, h => by cases h
  | n :: ns, k, i, j, h => by
    unfold placeI at h
    by_cases e : n = k
    · rw [if_pos e] at h
      cases Option.some.inj h
      exact ⟨0, rfl, by rw [e]; rfl, fun l hl => by omega⟩
    · rw [if_neg e] at h
      obtain ⟨m, e1, e2, e3⟩ := placeI_ok ns k (i + 1) j h
      refine ⟨m + 1, by omega, e2, fun l hl z hz => ?_⟩
      cases l with
      | zero => cases Option.some.inj (show some n = some z from hz); exact e
      | succ l => exact e3 l (by omega) z hz
def mIdxL (mo me : M) : M := fun st => bindO (mo st) fun c st1 => match c with
  | .lst ds => match mapO toI ds with
    | some ns => bindO (me st1) fun y st2 => match y with
      | .int k => match placeI ns k 0 with
        | some j => .ok (.int (j : Nat)) st2
        | none => .no
      | _ => .no
    | none => .no
  | _ => .no
section
variable {X : Cx} {g : G} {ER : EK} {o e : Expr} {mo me : M} {apos cpos : Pos}
theorem flat_ints : ∀ ns : List Int, (ns.map V.int).all flatV = true
  | [] => rfl
  | n :: ns => by rw [List.map_cons, List.all_cons, flat_ints ns]; rfl
theorem pe_mIdxL (hk : X.K = g.K) (ho : PE X o (tM g ER mo)) (he : PE X e (tM g ER me))
    (hbase : attributeBase o "index" X.env (eval o X.env) = eval o X.env := by rfl) (hfew : ((backTo cpos (starEach [e] X.env)).all (fun x => !x.1) && (backToKw cpos (keywordEach [] X.env)).all (fun x => x.1.isSome)
      && decide ([e].length + ([] : List Keyword).length + (if ([] : List Keyword).isEmpty then 0 else 1) < 30)) = true := by rfl)
    (hline : (apos.endLine == cpos.line) = true := by rfl) (hs : starEach [e] X.env = [(false, eval e X.env)] := by rfl) (hplain : (backTo cpos (starEach ([] : List Expr) X.env)).any (·.1) = false := by rfl) :
    PE X (.Call (.Attribute o "index" apos) [e] [] cpos) (tM g ER (mIdxL mo me)) := by
  refine PEi (pe_bm PySem.F.plainAttrs_list PySem.F.slot_list_index PySem.F.type_list_index mt_index ho (pa_cons he pa_nil hs) hbase hfew hline hs hplain) fun σ H Q h => ?_
  obtain ⟨ρ, st, s, h⟩ := h
  refine ⟨ρ, st, s, (OutC.bind h).mono fun c st1 ρ1 H1 _ h1 s1 v rv => ?_⟩
  cases c with
  | lst ds =>
    cases en : mapO toI ds with
    | none => simp only [en] at h1; exact h1.elim
    | some ns =>
      simp only [en] at h1
      obtain ⟨a, xs, rfl, ha, na, ra⟩ := rv.inv_lst
      have hx := toI_all en ra
      subst hx
      refine ⟨.inl ⟨rfl, _, SqL.of ha⟩, ρ1, st1, s1, (OutC.bind h1).mono fun y st2 ρ2 H2 e2 h2 s2 u ru => ?_⟩
      cases y with
      | int k =>
        cases ep : placeI ns k 0 with
        | none => simp only [ep] at h2; exact h2.elim
        | some j =>
          simp only [ep] at h2
          obtain ⟨m, e3, e4, e5⟩ := placeI_ok ns k 0 j ep
          have ej : j = m := by omega
          subst ej
          have hu := ru.inv_int
          subst hu
          obtain ⟨ha2, _⟩ := e2.keep a _ ha na
          refine ⟨a, ns.map V.int, .int k, j, .int k, rfl, rfl, by rw [hk]; exact SqL.of ha2, rfl, flat_ints ns, by rw [List.getElem?_map, e4]; rfl, ?_, fun l z hl hz => ?_, h2 ρ2 H2 Ext.refl s2 _ (.int _)⟩
          · exact decide_eq_true rfl
          · rw [List.getElem?_map] at hz
            obtain ⟨w, hw, rfl⟩ := Option.map_eq_some_iff.mp hz
            exact decide_eq_false (e5 l hl w hw)
      | _ => exact h2.elim
  | _ => exact h1.elim
end
end RE
set_option maxHeartbeats 4000000
namespace RE
open PySem PySem.Spec PyProof.Rows L2
def big62 (i : Int) : Bool := decide (-4611686018427387904 ≤ i) && decide (i < 4611686018427387904)
theorem big62_ok {i : Int} (h : big62 i = true) : -(2 ^ 62) ≤ i ∧ i < 2 ^ 62 := by
  obtain ⟨h1, h2⟩ := Bool.and_eq_true_iff.mp h
  have h1 := of_decide_eq_true h1
  have h2 := of_decide_eq_true h2
  exact ⟨by omega, by omega⟩
def range2F : List D → Option (List D)
  | [.int i, .int j] => if (big62 i && big62 j) = true then some ((List.range (j - i).toNat).map fun k => D.int (i + (k : Nat))) else none
  | _ => none
def okC (i j c : Int) : Bool := decide (c ≠ 0) && (decide (c.natAbs < 1073741824) && (Builtin.Range.small i j c && decide (Builtin.Range.rangeSize i j c = ((Builtin.Range.rangeSize i j c).toNat : Nat))))
def range3F : List D → Option (List D)
  | [.int i, .int j, .int c] => if okC i j c = true then some ((List.range (Builtin.Range.rangeSize i j c).toNat).map fun k => D.int (i + (k : Nat) * c)) else none
  | _ => none
section
variable {X : Cx} {g : G} {ER : EK} {tg : Expr} {p pos : Pos} {ma : MA} {ρ : Rh} {st : S} {H : Hp}
theorem it_rangeC {lo c : Int} {n : Nat} : ItOk g ρ st H (Itc lo c n) ((List.range n).map fun i => D.int (lo + (i : Nat) * c)) := fun A H' k hA i => by
  refine ⟨fun d hd => ?_, fun hl => by rw [List.length_map, List.length_range] at hl; exact hl⟩
  rw [List.getElem?_map] at hd
  obtain ⟨j, hj, rfl⟩ := Option.map_eq_some_iff.mp hd
  obtain ⟨hi, e⟩ := List.getElem?_eq_some_iff.mp hj
  have hi' : i < n := by simpa using hi
  have ej : i = j := by simpa using e
  subst ej
  refine ⟨hi', fun x H'' hx => ?_⟩
  obtain ⟨rfl, rfl⟩ := hx
  exact ⟨.inl rfl, .int _⟩
theorem pi_mRange2 {a b : Expr} (hg : Gl X "range") (hm : X.mg "range" = none) (ha : PA X [a, b] (tMA g ER ma)) (hs : starEach [a, b] X.env = [(false, eval a X.env), (false, eval b X.env)] := by rfl) (hs2 : starEach [b] X.env = [(false, eval b X.env)] := by rfl) :
    PI X tg (.Call (.Name "range" p) [a, b] [] pos) (tMI g ER (miFun range2F ma)) := by
  refine PIi (pi_range2 hg hm ha hs hs2) fun σ H R h => ?_
  obtain ⟨ρ, st, s, h⟩ := h
  refine ⟨ρ, st, s, (OutC.bind h).mono fun ds st1 ρ1 H1 _ h1 s1 vs rs => ?_⟩
  cases e1 : range2F ds with
  | none => rw [e1] at h1; exact h1.elim
  | some es =>
    rw [e1] at h1
    unfold range2F at e1
    split at e1
    · rename_i i j
      split at e1
      · rename_i hz
        cases Option.some.inj e1
        obtain ⟨v, vs', rfl, r, rs⟩ := rs.cases_cons
        obtain ⟨u, rfl, r'⟩ := rs.one
        obtain ⟨z1, z2⟩ := Bool.and_eq_true_iff.mp hz
        exact ⟨i, j, by rw [r.inv_int, r'.inv_int], ⟨(big62_ok z1).1, (big62_ok z1).2, (big62_ok z2).1, (big62_ok z2).2⟩, h1 ρ1 H1 Ext.refl s1 _ it_range⟩
      · cases e1
    · cases e1
theorem pi_mRange3 {a b c : Expr} (hg : Gl X "range") (hm : X.mg "range" = none) (ha : PA X [a, b, c] (tMA g ER ma))
    (hs : starEach [a, b, c] X.env = (false, eval a X.env) :: starEach [b, c] X.env := by rfl) (hpl : (backTo pos (starEach [b, c] X.env)).any (·.1) = false := by rfl) :
    PI X tg (.Call (.Name "range" p) [a, b, c] [] pos) (tMI g ER (miFun range3F ma)) := by
  refine PIi (pi_range3 hg hm ha hs hpl) fun σ H R h => ?_
  obtain ⟨ρ, st, s, h⟩ := h
  refine ⟨ρ, st, s, (OutC.bind h).mono fun ds st1 ρ1 H1 _ h1 s1 vs rs => ?_⟩
  cases e1 : range3F ds with
  | none => rw [e1] at h1; exact h1.elim
  | some es =>
    rw [e1] at h1
    unfold range3F at e1
    split at e1
    · rename_i i j c
      split at e1
      · rename_i hz
        cases Option.some.inj e1
        obtain ⟨v, vs', rfl, r, rs⟩ := rs.cases_cons
        obtain ⟨u, vs', rfl, r', rs⟩ := rs.cases_cons
        obtain ⟨w, rfl, r''⟩ := rs.one
        obtain ⟨z1, z2⟩ := Bool.and_eq_true_iff.mp hz
        obtain ⟨z2, z3⟩ := Bool.and_eq_true_iff.mp z2
        obtain ⟨z3, z4⟩ := Bool.and_eq_true_iff.mp z3
        exact ⟨i, j, c, _, by rw [r.inv_int, r'.inv_int, r''.inv_int], ⟨of_decide_eq_true z1, of_decide_eq_true z2, z3, of_decide_eq_true z4⟩, h1 ρ1 H1 Ext.refl s1 _ it_rangeC⟩
      · cases e1
    · cases e1
end
end RE
set_option maxHeartbeats 4000000
namespace RE
open PySem PySem.Spec PyProof.Rows L2
/-- the pairs, each a new tuple of the key's own tuple and the value -/
def ItiT (c : Addr) (ob : Obj) (ps : List (List Key × V)) : It where
  go i H := H c = some (.frz ob (.dT ps)) ∧ i < ps.length
  yld i H x H' := ∃ (t q : Addr) (ks : List Key) (y : V), ps[i]? = some (ks, y) ∧ x = .ref t ∧ H t = none ∧ H q = some (.tup (ks.map kV)) ∧ H' = upd H t (.tup [.ref q, y])
  stop i H := H c = some (.frz ob (.dT ps)) ∧ ps.length ≤ i
section
variable {X : Cx} {pq : List (Addr × Obj)} {σ : L2.St} {H : Hp} {s : Shared} {c : Addr} {ob : Obj} {ps : List (List Key × V)}
/-- a locked dict's entries: its object, each key's own tuple, each value -/
structure FrzT (H : Hp) (s : Shared) (c : Addr) (ob : Obj) (ps : List (List Key × V)) (es : Array DictEntry) (n : Nat) : Prop where
  sys : (c == sysModules) = false
  raw : DT.Raw s.heap c es n
  exact' : ob.ExactDict
  at' : s.heap.get? c = some ob
  data : ob.data = .dict es n
  size : es.size = ps.length
  item : ∀ (i : Nat) (ks : List Key) (y : V), ps[i]? = some (ks, y) → ∃ (en : DictEntry) (q : Addr), es[i]? = some en ∧ en.key = .ref q ∧ H q = some (.tup (ks.map kV)) ∧ RelV y en.val
theorem frzT_of (I : Inv X pq σ H s) (hc : H c = some (.frz ob (.dT ps))) : ∃ es n, FrzT H s c ob ps es n := by
  have q := I.hok c _ hc
  obtain ⟨g1, _, g2, rows, pr, ob', es, n, g3, g4, g5, g6, _⟩ := q
  have eo : ob = ob' := Option.some.inj (g1.symm.trans g3)
  subst eo
  refine ⟨es, n, ⟨g2, ⟨ob, g1, g4, g5⟩, g4, g1, g5, (size_of_entries g6).trans (Paired.length pr).symm, fun i ks y hy => ?_⟩⟩
  obtain ⟨row, hr, _, r2, r3⟩ := paired_get pr hy
  have ee := entry_at g6 i
  rw [hr] at ee
  exact ⟨_, row.2.1, ee, rfl, r2, r3⟩
end
section
variable {P : Program} {w : World} {K : PySem.W.Frag} {c : Addr} {ob : Obj} {es : Array DictEntry} {n : Nat} {ps : List (List Key × V)}
theorem FrzT.same {H : Hp} {s : Shared} {es' : Array DictEntry} {n' : Nat} (x : FrzT H s c ob ps es' n') (h : ob.data = .dict es n) : FrzT H s c ob ps es n := by
  obtain ⟨z1, z2⟩ := dict_ep h x.data
  rw [z1, z2] at x
  exact x
theorem turn_itemsT {ts : List Expr} {kk : Nat} {tp : Pos} (a : Addr) (hob : ob.data = .dict es n) :
    Turn P w K (.Tuple ts kk tp) (ItiT c ob ps) [a] a (fun i h => ∃ u v, IsItemIter h a c i ps.length n u v) where
  mem := List.mem_singleton.mpr rfl
  obj := fun _ _ ⟨_, _, z⟩ b hb => by
    rw [List.mem_singleton.mp hb]
    exact ⟨_, z, fun _ q => nomatch q⟩
  keep := fun _ _ _ ⟨u, v, z⟩ k => ⟨u, v, k a (List.mem_singleton.mpr rfl) _ z⟩
  item := by
    intro X e1 e2 e3 _ i pq s σ H E I free ⟨u, v, z⟩ ⟨hc, hi⟩
    cases e1; cases e2; cases e3
    obtain ⟨es', n', f⟩ := frzT_of I hc
    have f := f.same hob
    have hp : ps[i]? = some ps[i] := List.getElem?_eq_getElem hi
    obtain ⟨en, q, g1, g2, g3, g4⟩ := f.item i ps[i].1 ps[i].2 hp
    rw [← f.size] at z
    have ha : a < s.heap.objs.size := Heap.lt_size z
    have hi' : i < es.size := by rw [f.size]; exact hi
    have g1 : es[i] = en := (Array.getElem?_eq_some_iff.mp g1).2
    refine DT.nextI z f.raw hi' fun h1 out tup _ old => ?_
    rw [g1, g2] at out tup
    refine ⟨_, rfl, wpAny_letOwnedTupleGo_items (s := ⟨h1, s.gens, s.drawn, s.toks, s.os⟩) out fun h2 z2 same => ?_⟩
    have tup2 := (same.2 _ (Nat.ne_of_gt ha)).trans tup
    have ok : ObjOk X.prog X.w (upd H s.heap.objs.size (.tup [.ref q, ps[i].2])) h2 s.heap.objs.size (.tup [.ref q, ps[i].2]) :=
      ⟨(by decide : 2 ≤ sizeLine), _, .cons rfl (.cons g4 .nil), ⟨_, tup2, rfl, _, rfl⟩⟩
    have I2 := I.turnedNew (t' := s.toks) (h' := h2) (ch := [a]) (fun b o' nb eo => by
      have nb := fun q => nb (List.mem_singleton.mpr q)
      exact (same.2 b nb).trans (old b o' nb eo)) free (Nat.le_refl _) ok
    refine ⟨.ref s.heap.objs.size, _, I2, rfl, ⟨_, q, ps[i].1, ps[i].2, hp, rfl, I.hok.fresh (Nat.le_refl _), g3, rfl⟩, ⟨.ref q, en.val, ?_⟩, fun b hb => ?_⟩
    · rw [← f.size]; exact z2
    · rw [List.mem_singleton.mp hb, upd_ne (Nat.ne_of_lt ha)]
      exact (free a (List.mem_singleton.mpr rfl)).1
  done := by
    intro X e1 e2 e3 calm i pq s σ H E I free ⟨u, v, z⟩ ⟨hc, hi⟩
    cases e1; cases e2; cases e3
    obtain ⟨es', n', f⟩ := frzT_of I hc
    have f := f.same hob
    rw [← f.size] at z
    obtain ⟨k0, k1, _, k3, k4, k5⟩ := free a (List.mem_singleton.mpr rfl)
    exact DT.endI (I.ok.hd calm) z f.raw (by rw [f.size]; exact hi) fun h1 but => ⟨rfl, I.turned (t' := s.toks) (fun b o' nb eo => but b o' nb eo) k0 k1 k3 k4 k5⟩
  self := fun _ _ _ _ _ ⟨_, _, z⟩ k => PySem.W.kcp_self z k
end
def iItemsT (td : TE) : TI := fun σ H R => td σ H fun x H1 => ∃ c ob ps, x = .ref c ∧ H1 c = some (.frz ob (.dT ps)) ∧ R (ItiT c ob ps) H1
section
variable {X : Cx} {e : Expr} {td : TE} {p1 p2 : Pos}
theorem pi_itemsT {ts : List Expr} {kk : Nat} {tp : Pos} (he : PE X e td) (hb : attributeBase e "items" X.env (eval e X.env) = eval e X.env := by rfl) (hl : (p1.endLine == p2.line) = true := by rfl) :
    PI X (.Tuple ts kk tp) (.Call (.Attribute e "items" p1) [] [] p2) (iItemsT td) := by
  constructor
  intro pq s σ H R I h
  refine wpAny_Call_method (id := "dict.items") (T := "dict") hb rfl hl F.plainAttrs_dict F.slot_dict_items F.type_dict_items (thn (he.run pq s σ H _ I h) fun u s1 q => ?_)
  obtain ⟨x, H1, I1, rx, c, ob, ps, rfl, hc, k⟩ := q
  cases rx
  obtain ⟨es, n, f⟩ := frzT_of I1 hc
  refine ⟨f.raw.typeIs, fun a ea => ?_, ?_⟩
  · cases ea; exact ⟨ob, f.at', f.exact'.2.1⟩
  show wpAny _ _ (callWith p2 (Value.builtin "dict.items") [Value.ref c] [] []) _ X.xe s1
  refine method_meetsIn F.slot_dict_items F.entry_dict_items rfl (PySem.evalArgs_none ⟨rfl, f.raw.typeIs, F.args_dict_items_1 _, _, DT.meetsItems (es := es) (ep := n) f.sys, f.raw, ?_⟩)
  have I2 : Inv X pq σ H1 { s1 with heap := s1.heap.push { cls := .type "dict_items", data := .fields #[.ref c] } } := I1.kept (t' := s1.toks) fun _ _ z => Heap.get?_push_of_some _ z
  refine DT.iterI (d := c) ⟨_, Heap.get?_push_size _ rfl, rfl, rfl⟩ (f.raw.push _) (pi_one (tk := s1.toks) I2 _ (turn_itemsT _ f.data) ⟨Value.none, Value.none, ?_⟩ k)
  rw [← f.size]
  exact Heap.get?_push_size _ rfl
end
end RE
set_option maxHeartbeats 4000000
namespace RE
open PySem PySem.Spec PyProof.Rows L2
def itemsOf : D → Option (List D)
  | .dT kvs => some (kvs.map fun p => .tup [.tup (p.1.map keyDat), p.2])
  | .dK kvs => some (kvs.map fun p => .tup [keyDat p.1, p.2])
  | _ => none
section
variable {g : G} {ER : EK} {ρ : Rh} {st : S} {H : Hp} {d : Addr} {od : Obj}
theorem it_itemsT {kvs : List (List Key × V)} {ds : List (List Key × D)} (h : H d = some (.frz od (.dT kvs))) (nv : ¬ Vol ρ st d) (e : kvs.map (·.1) = ds.map (·.1)) (r : RpA g (Vol ρ st) H (kvs.map (·.2)) (ds.map (·.2))) :
    ItOk g ρ st H (ItiT d od kvs) (ds.map fun p => .tup [.tup (p.1.map keyDat), p.2]) := fun B H' k hB i => by
  have hs := (k d _ h nv).1
  have len : kvs.length = ds.length := by have := congrArg List.length e; simpa using this
  refine ⟨fun x hx => ?_, fun hl => ⟨hs, by rw [List.length_map] at hl; omega⟩⟩
  rw [List.getElem?_map] at hx
  obtain ⟨p, hp, rfl⟩ := Option.map_eq_some_iff.mp hx
  have lt : i < kvs.length := by rw [len]; exact (List.getElem?_eq_some_iff.mp hp).1
  refine ⟨⟨hs, lt⟩, fun y H'' hy => ?_⟩
  obtain ⟨t, q, ks, v, e2, rfl, ht, e3, rfl⟩ := hy
  have ek : ks = p.1 := by
    have z1 : (kvs.map (·.1))[i]? = some ks := by rw [List.getElem?_map, e2]; rfl
    have z2 : (ds.map (·.1))[i]? = some p.1 := by rw [List.getElem?_map, hp]; rfl
    rw [e, z2] at z1
    exact (Option.some.inj z1).symm
  subst ek
  have rv : Rp g (Vol ρ st) H v p.2 := r.2 i v p.2 (by rw [List.getElem?_map, e2]; rfl) (by rw [List.getElem?_map, hp]; rfl)
  refine ⟨.inr ⟨t, _, ht, rfl⟩, ?_⟩
  have rk : Rp g B H' (.ref q) (.tup (p.1.map keyDat)) := by
    refine Rp.tup' e3 (fun v => ?_) (keysDat_rp _)
    obtain ⟨o, e4, nt⟩ := hB q v
    rw [e3] at e4
    cases Option.some.inj e4
    exact nt _ rfl
  exact Rp.tup' upd_same (nvolA hB ht) (RpA.cons (rk.ext (keepA ht)) (RpA.cons ((rv.ext k).ext (keepA ht)) RpA.nil))
theorem it_itemsK {kvs : List (Key × V)} {ds : List (Key × D)} (h : H d = some (.frz od (.dK kvs))) (nv : ¬ Vol ρ st d) (e : kvs.map (·.1) = ds.map (·.1)) (r : RpA g (Vol ρ st) H (kvs.map (·.2)) (ds.map (·.2))) :
    ItOk g ρ st H (Iti d od kvs) (ds.map fun p => .tup [keyDat p.1, p.2]) := fun B H' k hB i => by
  have hs := (k d _ h nv).1
  have len : kvs.length = ds.length := by have := congrArg List.length e; simpa using this
  refine ⟨fun x hx => ?_, fun hl => ⟨hs, by rw [List.length_map] at hl; omega⟩⟩
  rw [List.getElem?_map] at hx
  obtain ⟨p, hp, rfl⟩ := Option.map_eq_some_iff.mp hx
  have lt : i < kvs.length := by rw [len]; exact (List.getElem?_eq_some_iff.mp hp).1
  refine ⟨⟨hs, lt⟩, fun y H'' hy => ?_⟩
  obtain ⟨t, kk, v, e2, rfl, ht, rfl⟩ := hy
  have ek : kk = p.1 := by
    have z1 : (kvs.map (·.1))[i]? = some kk := by rw [List.getElem?_map, e2]; rfl
    have z2 : (ds.map (·.1))[i]? = some p.1 := by rw [List.getElem?_map, hp]; rfl
    rw [e, z2] at z1
    exact (Option.some.inj z1).symm
  subst ek
  have rv : Rp g (Vol ρ st) H v p.2 := r.2 i v p.2 (by rw [List.getElem?_map, e2]; rfl) (by rw [List.getElem?_map, hp]; rfl)
  exact ⟨.inr ⟨t, _, ht, rfl⟩, Rp.tup' upd_same (nvolA hB ht) (RpA.cons (keyDat_rp _) (RpA.cons ((rv.ext k).ext (keepA ht)) RpA.nil))⟩
end
def mForI (i : Nat) (tg : Tg) (body : MS) : MS := fun st => match st.sl[i]? with
  | some (.d x) => match itemsOf x with
    | some ds => noEr (loopS tg body ds st)
    | none => .no
  | _ => .no
section
variable {X : Cx} {g : G} {ER : EK} {pos p p1 p2 : Pos} {x : Str}
theorem ps_mForI {ts : List Expr} {kk : Nat} {tp : Pos} {body : List Stmt} {t : TG} {tgd : Tg} {is : List Nat} {mb : MS} {i : Nat} (hp : PassesOwn (model X.prog X.w) X.A X.env X.xe) (hc : X.calm = true) (hi : PE X (.Name x p) (tVar i))
    (hg : PG X (.Tuple ts kk tp) t) (ok : GOk g tgd t is) (hb : PSs X body (tMS g ER mb))
    (hs : ∀ y, foldedSetIterable (.Call (.Attribute (.Name x p) "items" p1) [] [] p2) X.env y = pure y := by intro _; rfl)
    (ha : attributeBase (.Name x p) "items" X.env (eval (.Name x p) X.env) = eval (.Name x p) X.env := by rfl) (hl : (p1.endLine == p2.line) = true := by rfl) :
    PS X (.For (.Tuple ts kk tp) (.Call (.Attribute (.Name x p) "items" p1) [] [] p2) body [] pos) (tMS g ER (mForI i tgd mb)) := by
  have both := PI.or (pi_items (elts := ts) (kk := kk) (tpos := tp) hi ha hl) (pi_itemsT (ts := ts) (kk := kk) (tp := tp) hi ha hl)
  refine PSi (PS.or (ps_lock (ps_for hp hc both hg hb hs)) (ps_for hp hc both hg hb hs)) fun E σ H h => ?_
  obtain ⟨ρ, st, s, h⟩ := h
  unfold mForI at h
  split at h
  case h_2 => exact h.elim
  rename_i y ey
  have lt : i < σ.length := by rw [s.len]; exact (List.getElem?_eq_some_iff.mp ey).1
  obtain ⟨v, ev, rv⟩ := s.slot i _ _ ey (List.getElem?_eq_getElem lt)
  have ev : σ[i]? = some (some v) := by rw [List.getElem?_eq_getElem lt, ev]
  split at h
  case h_2 => exact h.elim
  rename_i ds eds
  cases y with
  | dT kvs =>
    cases Option.some.inj eds
    obtain ⟨a, xs, rfl, rd, nv, ek, er⟩ := rv.inv_dT
    rcases rd with rd | ⟨o, rd⟩
    · refine .inl ⟨a, .dT xs, rd, trivial, fun od => ?_⟩
      have s1 := s.lock (od := od) rd trivial nv
      exact .inr ⟨.ref a, ev, a, od, xs, rfl, upd_same, for_core ok s1 (OutS.locked rd trivial nv h) (it_itemsT upd_same nv ek (er.lock rd trivial))⟩
    · exact .inr (.inr ⟨.ref a, ev, a, o, xs, rfl, rd, for_core ok s (OutS.unEr h) (it_itemsT rd nv ek er)⟩)
  | dK kvs =>
    cases Option.some.inj eds
    obtain ⟨a, xs, rfl, rd, nv, ek, er⟩ := rv.inv_dK
    rcases rd with rd | ⟨o, rd⟩
    · refine .inl ⟨a, .dK xs, rd, trivial, fun od => ?_⟩
      have s1 := s.lock (od := od) rd trivial nv
      exact .inl ⟨.ref a, ev, a, od, xs, rfl, upd_same, for_core ok s1 (OutS.locked rd trivial nv h) (it_itemsK upd_same nv ek (er.lock rd trivial))⟩
    · exact .inr (.inl ⟨.ref a, ev, a, o, xs, rfl, rd, for_core ok s (OutS.unEr h) (it_itemsK rd nv ek er)⟩)
  | _ => cases eds
end
end RE
set_option maxHeartbeats 4000000
namespace RE
open PySem PySem.Spec PyProof.Rows L2
def putsG : List Tg → List D → S → Option S
  | [], [], st => some st
  | t :: ts, d :: ds, st => match t d st with
    | some st1 => putsG ts ds st1
    | none => none
  | _, _, _ => none
def GsOk (g : G) (tgs : List Tg) (t : TGs) (is : List Nat) : Prop := ∀ (ρ : Rh) (σ : L2.St) (H : Hp) (st : S) (xs : List V) (ds : List D) (st' : S) (Q : L2.St → Hp → Prop), putsG tgs ds st = some st' → Sim g ρ σ H st → RpA g (Vol ρ st) H xs ds →
  (∀ σ', Sim g ρ σ' H st' → st'.ce = st.ce → (∀ vs : List Nat, (∀ i ∈ is, i ∈ vs) → wipe σ' vs = wipe σ vs) → Q σ' H) → t xs σ H Q
theorem putsG_len : ∀ {tgs : List Tg} {ds : List D} {st st' : S}, putsG tgs ds st = some st' → ds.length = tgs.length
  | [], [], _, _, _ => rfl
  | [], _ :: _, _, _, h => by cases h
  | _ :: _, [], _, _, h => by cases h
  | t :: ts, d :: ds, st, st', h => by
    unfold putsG at h
    cases e : t d st with
    | none => simp only [e] at h; cases h
    | some st1 =>
      simp only [e] at h
      rw [List.length_cons, List.length_cons, putsG_len h]
theorem gsok_nil {g : G} : GsOk g [] gNil [] := by
  intro ρ σ H st xs ds st' Q e s r k
  cases ds with
  | cons d ds => cases e
  | nil =>
    cases Option.some.inj e
    exact ⟨r.cases_nil, k σ s rfl fun _ _ => rfl⟩
theorem vol_ce {ρ : Rh} {st st' : S} (h : st'.ce = st.ce) {a : Addr} (v : Vol ρ st' a) : Vol ρ st a := by
  rcases v with v | ⟨k, c, h1, h2, h3⟩
  · exact .inl v
  · exact .inr ⟨k, c, by rw [← h]; exact h1, h2, h3⟩
theorem gsok_cons {g : G} {tg : Tg} {t : TG} {is js : List Nat} {tgs : List Tg} {ts : TGs} (h1 : GOk g tg t is) (h2 : GsOk g tgs ts js) : GsOk g (tg :: tgs) (gCons t ts) (is ++ js) := by
  intro ρ σ H st xs ds st' Q e s r k
  cases ds with
  | nil => cases e
  | cons d ds =>
    unfold putsG at e
    cases e1 : tg d st with
    | none => simp only [e1] at e; cases e
    | some st1 =>
      simp only [e1] at e
      obtain ⟨x, ys, rfl, r1, r2⟩ := r.cases_cons
      refine ⟨x, ys, rfl, h1 ρ σ H st x d st1 _ e1 s r1 fun σ1 s1 c1 w1 => ?_⟩
      refine h2 ρ σ1 H st1 ys ds st' Q e s1 (r2.ext fun a o h n => ⟨h, fun v => n (vol_ce c1 v)⟩) fun σ2 s2 c2 w2 => k σ2 s2 (c2.trans c1) fun vs h => ?_
      rw [w2 vs fun i hi => h i (List.mem_append_right _ hi), w1 vs fun i hi => h i (List.mem_append_left _ hi)]
def tgTupG (tgs : List Tg) : Tg := fun d st => match d with
  | .tup ds => putsG tgs ds st
  | .kt ds => putsG tgs ds st
  | _ => none
theorem gok_nest {g : G} {tgs : List Tg} {ts : TGs} {is : List Nat} (h : GsOk g tgs ts is) : GOk g (tgTupG tgs) (gTup g.K tgs.length ts) is := by
  intro ρ σ H st x d st' Q e s r k
  cases d with
  | tup ds =>
    obtain ⟨a, xs, rfl, ha, _, ra⟩ := r.inv_tup
    exact ⟨a, xs, rfl, SqT.of ha, by rw [ra.1]; exact putsG_len e, h ρ σ H st xs ds st' Q e s ra k⟩
  | kt ds =>
    obtain ⟨a, xs, rfl, ha, ra⟩ := r.inv_kt
    exact ⟨a, xs, rfl, ha.sq, by rw [ra.1]; exact putsG_len e, h ρ σ H st xs ds st' Q e s ra k⟩
  | _ => cases e
end RE
set_option maxHeartbeats 4000000
namespace RE
open PySem PySem.Spec PyProof.Rows L2
def getC (c : Ce) (d : D) : Option (Option D) := match c with
  | .dK kvs => getD (.dK kvs) d
  | .dT kvs => getD (.dT kvs) d
  | _ => none
def Ce.isDc : Ce → Bool
  | .dK _ => true
  | .dT _ => true
  | _ => false
def S.isDc (st : S) (k : Nat) : Bool := match st.ce[k]? with
  | some c => c.isDc
  | none => false
section
variable {g : G} {A : Addr → Prop} {H : Hp} {a : Addr} {c : Ce} {v : V} {d : D} {o : Option D}
theorem getC_ok {ad : List Addr} (q : CeOk g A ad H a c) (r : Rp g A H v d) (e : getC c d = some o) : ∃ ov, DGet H a v ov ∧ ((o = none ∧ ov = none) ∨ ∃ x y, o = some x ∧ ov = some y ∧ Rp g A H y x) := by
  cases c with
  | dK kvs =>
    obtain ⟨xs, ha, ek, rv⟩ := q
    have e : getD (.dK kvs) d = some o := e
    unfold getD at e
    cases e1 : keyD d with
    | none => simp only [e1] at e; cases e
    | some k =>
      simp only [e1] at e
      cases Option.some.inj e
      cases keyD_ok r e1
      refine ⟨valV xs k, .inl ⟨xs, k, .inl ha, rfl, rfl⟩, ?_⟩
      rcases valD_ok k ek rv with ⟨h1, h2⟩ | ⟨x, y, h1, h2, h3⟩
      · exact .inl ⟨h1, h2⟩
      · exact .inr ⟨x, y, h1, h2, h3⟩
  | dT kvs =>
    obtain ⟨xs, ha, ek, rv⟩ := q
    have e : getD (.dT kvs) d = some o := e
    unfold getD at e
    cases e1 : keysD d with
    | none => simp only [e1] at e; cases e
    | some k =>
      simp only [e1] at e
      cases Option.some.inj e
      obtain ⟨b, rfl, hb⟩ := keysD_ok r e1
      refine ⟨valV xs k, .inr ⟨xs, k, b, .inl ha, rfl, hb, rfl⟩, ?_⟩
      rcases valD_ok k ek rv with ⟨h1, h2⟩ | ⟨x, y, h1, h2, h3⟩
      · exact .inl ⟨h1, h2⟩
      · exact .inr ⟨x, y, h1, h2, h3⟩
  | _ => cases e
theorem isDc_ok {ρ : Rh} {σ : L2.St} {st : S} {k : Nat} (s : Sim g ρ σ H st) (h : st.isDc k = true) (ha : ρ.ad[k]? = some a) : IsD H a := by
  unfold S.isDc at h
  cases e : st.ce[k]? with
  | none => rw [e] at h; cases h
  | some c =>
    rw [e] at h
    have q := s.cell k c a e ha
    cases c with
    | dK kvs => exact .inl ⟨_, .inl q.choose_spec.1⟩
    | dT kvs => exact .inr ⟨_, .inl q.choose_spec.1⟩
    | _ => cases h
end
def mGetB1 (i : Nat) (me : M) : M := fun st => match st.cellOf i with
  | some k => if st.isDc k = true then bindO (me st) fun y st1 => match st1.ce[k]? with
    | some c => match getC c y with
      | some (some r) => .ok r st1
      | some none => .ok .non st1
      | none => .no
    | none => .no
    else .no
  | none => mGet1 (mVarF i) me st
def mGetB2 (i : Nat) (me mf : M) : M := fun st => match st.cellOf i with
  | some k => if st.isDc k = true then bindO (me st) fun y st1 => bindO (mf st1) fun z st2 => match st2.ce[k]? with
    | some c => match getC c y with
      | some (some r) => .ok r st2
      | some none => .ok z st2
      | none => .no
    | none => .no
    else .no
  | none => mGet2 (mVarF i) me mf st
/-- x[k], x a name: a datum, or a cell that stays one, a list or a dict -/
def mIxC (i : Nat) (mb : M) : M := fun st => match st.cellOf i with
  | some k => if st.isDc k = true then bindO (mb st) fun y st1 => match st1.ce[k]? with
    | some c => match getC c y with
      | some (some r) => .ok r st1
      | _ => .no
    | none => .no
    else mIxB i mb st
  | none => mIxB i mb st
section
variable {X : Cx} {g : G} {ER : EK} {x : Str} {e f : Expr} {me mf : M} {i : Nat} {p apos cpos pos : Pos}
theorem pe_mGetB1 (hu : X.A.units + 1 < cLine) (hx : PE X (.Name x p) (tVar i)) (he : PE X e (tM g ER me)) (m : M1 X (.Name x p) "get" apos e cpos := by exact ⟨rfl, rfl, rfl, rfl⟩) : PE X (.Call (.Attribute (.Name x p) "get" apos) [e] [] cpos) (tM g ER (mGetB1 i me)) := by
  refine PEi (PE.or (pe_mGet1 hu (pe_mVarF hx) he m) (pe_dget1 hu hx he m)) fun σ H Q h => ?_
  obtain ⟨ρ, st, s, h⟩ := h
  unfold mGetB1 at h
  cases e1 : st.cellOf i with
  | none => simp only [e1] at h; exact .inl ⟨ρ, st, s, h⟩
  | some k =>
    simp only [e1] at h
    by_cases e2 : st.isDc k = true
    case neg => rw [if_neg e2] at h; exact h.elim
    rw [if_pos e2] at h
    obtain ⟨a, hu, ha⟩ := s.rf (cellOf_ok e1)
    refine .inr ⟨_, hu, a, rfl, isDc_ok s e2 ha, ρ, st, s, (OutC.bind h).mono fun y st1 ρ1 H1 x1 h1 s1 u ru => ?_⟩
    cases e3 : st1.ce[k]? with
    | none => simp only [e3] at h1; exact h1.elim
    | some c =>
      simp only [e3] at h1
      cases e4 : getC c y with
      | none => simp only [e4] at h1; exact h1.elim
      | some r =>
        obtain ⟨ov, gd, hr⟩ := getC_ok (s1.cell k c a e3 (x1.pre k a ha)) ru e4
        refine ⟨ov, gd, ?_⟩
        rcases hr with ⟨rfl, rfl⟩ | ⟨z, w, rfl, rfl, rz⟩
        · simp only [e4] at h1; exact h1 ρ1 H1 Ext.refl s1 _ .non
        · simp only [e4] at h1; exact h1 ρ1 H1 Ext.refl s1 _ rz
theorem pe_mGetB2 (hu : X.A.units + 1 < cLine) (hx : PE X (.Name x p) (tVar i)) (he : PE X e (tM g ER me)) (hf : PE X f (tM g ER mf)) (m : M2 X (.Name x p) "get" apos e f cpos := by exact ⟨rfl, rfl, rfl, rfl⟩) : PE X (.Call (.Attribute (.Name x p) "get" apos) [e, f] [] cpos) (tM g ER (mGetB2 i me mf)) := by
  refine PEi (PE.or (pe_mGet2 hu (pe_mVarF hx) he hf m) (pe_dget2 hu hx he hf m)) fun σ H Q h => ?_
  obtain ⟨ρ, st, s, h⟩ := h
  unfold mGetB2 at h
  cases e1 : st.cellOf i with
  | none => simp only [e1] at h; exact .inl ⟨ρ, st, s, h⟩
  | some k =>
    simp only [e1] at h
    by_cases e2 : st.isDc k = true
    case neg => rw [if_neg e2] at h; exact h.elim
    rw [if_pos e2] at h
    obtain ⟨a, hu, ha⟩ := s.rf (cellOf_ok e1)
    refine .inr ⟨_, hu, a, rfl, isDc_ok s e2 ha, ρ, st, s, (OutC.bind h).mono fun y st1 ρ1 H1 x1 h1 s1 u ru => ?_⟩
    refine ⟨ρ1, st1, s1, (OutC.bind h1).mono fun z st2 ρ2 H2 x2 h2 s2 w rw' => ?_⟩
    cases e3 : st2.ce[k]? with
    | none => simp only [e3] at h2; exact h2.elim
    | some c =>
      simp only [e3] at h2
      cases e4 : getC c y with
      | none => simp only [e4] at h2; exact h2.elim
      | some r =>
        obtain ⟨ov, gd, hr⟩ := getC_ok (s2.cell k c a e3 (x2.pre k a (x1.pre k a ha))) (ru.go x2) e4
        refine ⟨ov, gd, ?_⟩
        rcases hr with ⟨rfl, rfl⟩ | ⟨z', w', rfl, rfl, rz⟩
        · simp only [e4] at h2; exact h2 ρ2 H2 Ext.refl s2 _ rw'
        · simp only [e4] at h2; exact h2 ρ2 H2 Ext.refl s2 _ rz
theorem pe_mIxC (hk : X.K = g.K) (hu : X.A.units + 1 < cLine) (hx : PE X (.Name x p) (tVar i)) (hb : PE X e (tM g ER me)) (hs : PlainIx e) (hn : NoSl e) : PE X (.Subscript (.Name x p) e pos) (tM g ER (mIxC i me)) := by
  refine PEi (PE.or (pe_mIxB hk hu hx hb hs hn) (pe_dget hu hx hb hn)) fun σ H Q h => ?_
  obtain ⟨ρ, st, s, h⟩ := h
  unfold mIxC at h
  cases e1 : st.cellOf i with
  | none => simp only [e1] at h; exact .inl ⟨ρ, st, s, h⟩
  | some k =>
    simp only [e1] at h
    by_cases e2 : st.isDc k = true
    case neg => rw [if_neg e2] at h; exact .inl ⟨ρ, st, s, h⟩
    rw [if_pos e2] at h
    obtain ⟨a, hu, ha⟩ := s.rf (cellOf_ok e1)
    refine .inr ⟨_, hu, ρ, st, s, (OutC.bind h).mono fun y st1 ρ1 H1 x1 h1 s1 u ru => ?_⟩
    cases e3 : st1.ce[k]? with
    | none => simp only [e3] at h1; exact h1.elim
    | some c =>
      simp only [e3] at h1
      cases e4 : getC c y with
      | none => simp only [e4] at h1; exact h1.elim
      | some r =>
        obtain ⟨ov, gd, hr⟩ := getC_ok (s1.cell k c a e3 (x1.pre k a ha)) ru e4
        rcases hr with ⟨rfl, rfl⟩ | ⟨z, w, rfl, rfl, rz⟩
        · simp only [e4] at h1; exact h1.elim
        · simp only [e4] at h1
          exact ⟨a, w, rfl, gd, h1 ρ1 H1 Ext.refl s1 _ rz⟩
end
end RE
set_option maxHeartbeats 4000000
namespace RE
open PySem PySem.Spec PyProof.Rows L2
def putC (c : Ce) (y z : D) : Option Ce := match c with
  | .dT ds => match keysD y with
    | some q => if ds.length ≤ lim then some (.dT (putE ds q z)) else none
    | none => none
  | .dK ds => match keyD y with
    | some q => if ds.length ≤ lim then some (.dK (putE ds q z)) else none
    | none => none
  | _ => none
def mAugD (f : D → D → Option D) (i : Nat) (mk mv : M) : MS := fun st => match st.cellOf i with
  | some k => bindS (mk st) fun y st1 => match st1.ce[k]? with
    | some c => match getC c y with
      | some (some old) => bindS (mv st1) fun z st2 => match f old z with
        | some r => match st2.ce[k]? with
          | some c2 => match putC c2 y r with
            | some c3 => .nx (st2.setC k c3)
            | none => .no
          | none => .no
        | none => .no
      | _ => .no
    | none => .no
  | none => .no
section
variable {X : Cx} {g : G} {ER : EK} {pos : Pos}
/-- what a put says of the heap -/
theorem putC_ok {ρ : Rh} {σ : L2.St} {st : S} {H : Hp} {k : Nat} {a : Addr} {c c3 : Ce} {y z : D} {u v : V} (s : Sim g ρ σ H st) (hc : st.ce[k]? = some c) (ha : ρ.ad[k]? = some a) (ru : Rp g (Vol ρ st) H u y) (rv : Rp g (Vol ρ st) H v z) (e : putC c y z = some c3) :
    ∃ H', DPut H a u v H' ∧ Ext ρ st H ρ (st.setC k c3) H' ∧ Sim g ρ σ H' (st.setC k c3) := by
  have lz : ∀ {n m : Nat}, n = m → m ≤ lim → n < sizeLine := fun {n m} e h => Nat.lt_of_le_of_lt (Nat.le_trans (Nat.le_of_eq e) h) (by decide)
  cases c with
  | dT ds =>
    have e : (match keysD y with
      | some q => if ds.length ≤ lim then some (Ce.dT (putE ds q z)) else none
      | none => none) = some c3 := e
    cases e4 : keysD y with
    | none => simp only [e4] at e; cases e
    | some q =>
      simp only [e4] at e
      by_cases hz : ds.length ≤ lim
      case neg => rw [if_neg hz] at e; cases e
      rw [if_pos hz] at e
      cases Option.some.inj e
      obtain ⟨xs, q2, qk, q3⟩ := s.cell k _ a hc ha
      have hl : xs.length = ds.length := by have := congrArg List.length qk; simpa using this
      obtain ⟨p1, p2⟩ := putE_ok (k := q) qk q3 rv
      have xe := Ext.setC (c := .dT (putE ds q z)) (o := .dT (putK xs q v)) s hc rfl ha
      exact ⟨_, dkT.put g _ H u v y q xs a ru e4 q2 (lz hl hz), xe, s.setC hc rfl ha rfl ⟨_, upd_same, p1, p2.ext xe.keep⟩⟩
  | dK ds =>
    have e : (match keyD y with
      | some q => if ds.length ≤ lim then some (Ce.dK (putE ds q z)) else none
      | none => none) = some c3 := e
    cases e4 : keyD y with
    | none => simp only [e4] at e; cases e
    | some q =>
      simp only [e4] at e
      by_cases hz : ds.length ≤ lim
      case neg => rw [if_neg hz] at e; cases e
      rw [if_pos hz] at e
      cases Option.some.inj e
      obtain ⟨xs, q2, qk, q3⟩ := s.cell k _ a hc ha
      have hl : xs.length = ds.length := by have := congrArg List.length qk; simpa using this
      obtain ⟨p1, p2⟩ := putE_ok (k := q) qk q3 rv
      have xe := Ext.setC (c := .dK (putE ds q z)) (o := .dK (putK xs q v)) s hc rfl ha
      exact ⟨_, dkK.put g _ H u v y q xs a ru e4 q2 (lz hl hz), xe, s.setC hc rfl ha rfl ⟨_, upd_same, p1, p2.ext xe.keep⟩⟩
  | _ => cases e
theorem ps_mAugD {op : Operator} {r : R2} {f : D → D → Option D} {o ke ve : Expr} {i : Nat} {mk mv : M} {tp : Pos} (hop : OpR X (inplaceOp op) r) (hr : ROp g r f) (hu : X.A.units + 1 < cLine) (ho : PE X o (tVar i)) (hk : PE X ke (tM g ER mk)) (hv : PE X ve (tM g ER mv))
    (ha : ∀ ov iv new, augStore ke ov iv new = (do holding [new, ov, iv] (setItem ov iv new); release [new, ov, iv] []; pure .next) := by intros; rfl) : PS X (.AugAssign (.Subscript o ke tp) op ve pos) (tMS g ER (mAugD f i mk mv)) := by
  refine PSi (ps_daug hu ho hk hv hop ha) fun E σ H h => ?_
  obtain ⟨ρ, st, s, h⟩ := h
  unfold mAugD at h
  cases e1 : st.cellOf i with
  | none => simp only [e1] at h; exact h.elim
  | some k =>
    simp only [e1] at h
    obtain ⟨a, hu, ha⟩ := s.rf (cellOf_ok e1)
    refine ⟨_, hu, ρ, st, s, (OutS.bind h).mono fun y st1 ρ1 H1 x1 h1 s1 u ru => ?_⟩
    have ha1 := x1.pre k a ha
    cases e2 : st1.ce[k]? with
    | none => simp only [e2] at h1; exact h1.elim
    | some c =>
      simp only [e2] at h1
      cases e3 : getC c y with
      | none => simp only [e3] at h1; exact h1.elim
      | some q =>
        obtain ⟨ov, gd, hq⟩ := getC_ok (s1.cell k c a e2 ha1) ru e3
        rcases hq with ⟨rfl, rfl⟩ | ⟨old, w, rfl, rfl, rw'⟩
        · simp only [e3] at h1; exact h1.elim
        simp only [e3] at h1
        refine ⟨a, w, rfl, gd, ρ1, st1, s1, (OutS.bind h1).mono fun z st2 ρ2 H2 x2 h2 s2 v rv => ?_⟩
        cases e4 : f old z with
        | none => simp only [e4] at h2; exact h2.elim
        | some t =>
          simp only [e4] at h2
          cases e5 : st2.ce[k]? with
          | none => simp only [e5] at h2; exact h2.elim
          | some c2 =>
            simp only [e5] at h2
            cases e6 : putC c2 y t with
            | none => simp only [e6] at h2; exact h2.elim
            | some c3 =>
              simp only [e6] at h2
              refine hr ρ2 σ st2 H2 w v old z t _ e4 s2 (rw'.go x2) rv fun ρ3 H3 n x3 s3 rn => ?_
              obtain ⟨H4, dp, x4, s4⟩ := putC_ok s3 e5 (x3.pre k a (x2.pre k a ha1)) ((ru.go x2).go x3) rn e6
              exact ⟨H4, dp, h2 ρ3 σ H4 (x3.trans x4) s4⟩
end
end RE
set_option maxHeartbeats 4000000
namespace RE
open PySem PySem.Spec PyProof.Rows L2
def rGetL : V → V → Hp → VK → Prop := fun o i H Q => ∃ (p : Addr) (xs : List V) (j : Nat) (v : V), o = .ref p ∧ i = .int (j : Nat) ∧ H p = some (.lst xs) ∧ xs[j]? = some v ∧ Q v H
theorem get_listN {X : Cx} : PGet X rGetL := by
  intro pq s σ H o i ov iv Q I ro ri h
  obtain ⟨p, xs, j, v, rfl, rfl, hp, hj, k⟩ := h
  cases ro
  obtain ⟨t, rfl⟩ := ri
  obtain ⟨its, n, r, e, small⟩ := I.lst hp
  obtain ⟨w, hw, rw'⟩ := r.get hj
  have il : s.heap.IsList p its.toArray := ⟨_, e, rfl, n, rfl⟩
  refine wpAny_getItem_list il (k := ((j : Nat) : Int)) (by omega) ?_ (x := w) ?_ ⟨v, H, I, rw', k⟩
  · have h1 := (List.getElem?_eq_some_iff.mp hj).1
    have h2 := line63
    omega
  · rw [Int.toNat_natCast]; simpa using hw
def mAugL (f : D → D → Option D) (i : Nat) (mk mv : M) : MS := fun st => match st.cellOf i with
  | some k => bindS (mk st) fun y st1 => match y with
    | .int j => if 0 ≤ j then match st1.ce[k]? with
      | some (.l ds) => match ds[j.toNat]? with
        | some old => bindS (mv st1) fun z st2 => match f old z with
          | some r => match st2.ce[k]? with
            | some (.l es) => if j.toNat < es.length then .nx (st2.setC k (.l (es.set j.toNat r))) else .no
            | _ => .no
          | none => .no
        | none => .no
      | _ => .no
      else .no
    | _ => .no
  | none => .no
section
variable {X : Cx} {g : G} {ER : EK} {pos : Pos}
theorem ps_mAugL {op : Operator} {r : R2} {f : D → D → Option D} {o ke ve : Expr} {i : Nat} {mk mv : M} {tp : Pos} (hop : OpR X (inplaceOp op) r) (hr : ROp g r f) (ho : PE X o (tVar i)) (hk : PE X ke (tM g ER mk)) (hv : PE X ve (tM g ER mv))
    (ha : ∀ ov iv new, augStore ke ov iv new = (do holding [new, ov, iv] (setItem ov iv new); release [new, ov, iv] []; pure .next) := by intros; rfl) : PS X (.AugAssign (.Subscript o ke tp) op ve pos) (tMS g ER (mAugL f i mk mv)) := by
  refine PSi (ps_augS ho hk get_listN hv hop L2.set_list ha) fun E σ H h => ?_
  obtain ⟨ρ, st, s, h⟩ := h
  unfold mAugL at h
  cases e1 : st.cellOf i with
  | none => simp only [e1] at h; exact h.elim
  | some k =>
    simp only [e1] at h
    obtain ⟨a, hu, ha⟩ := s.rf (cellOf_ok e1)
    refine ⟨_, hu, ρ, st, s, (OutS.bind h).mono fun y st1 ρ1 H1 x1 h1 s1 u ru => ?_⟩
    have ha1 := x1.pre k a ha
    cases y with
    | int j =>
      by_cases h0 : 0 ≤ j
      case neg => simp only [if_neg h0] at h1; exact h1.elim
      simp only [if_pos h0] at h1
      obtain ⟨n, rfl⟩ := Int.eq_ofNat_of_zero_le h0
      rw [Int.toNat_natCast] at h1
      have hu1 := ru.inv_int
      subst hu1
      cases e2 : st1.ce[k]? with
      | none => simp only [e2] at h1; exact h1.elim
      | some c =>
        cases c with
        | l ds =>
          simp only [e2] at h1
          obtain ⟨xs, q1, q2⟩ := s1.cell k _ a e2 ha1
          cases e3 : ds[n]? with
          | none => simp only [e3] at h1; exact h1.elim
          | some old =>
            simp only [e3] at h1
            obtain ⟨w, hw, rw'⟩ := q2.get e3
            refine ⟨a, xs, n, w, rfl, rfl, q1, hw, ρ1, st1, s1, (OutS.bind h1).mono fun z st2 ρ2 H2 x2 h2 s2 v rv => ?_⟩
            cases e4 : f old z with
            | none => simp only [e4] at h2; exact h2.elim
            | some t =>
              simp only [e4] at h2
              cases e5 : st2.ce[k]? with
              | none => simp only [e5] at h2; exact h2.elim
              | some c2 =>
                cases c2 with
                | l es =>
                  simp only [e5] at h2
                  by_cases hz : n < es.length
                  case neg => rw [if_neg hz] at h2; exact h2.elim
                  rw [if_pos hz] at h2
                  refine hr ρ2 σ st2 H2 w v old z t _ e4 s2 (rw'.go x2) rv fun ρ3 H3 nv x3 s3 rn => ?_
                  have ha3 := x3.pre k a (x2.pre k a ha1)
                  obtain ⟨ys, q3, q4⟩ := s3.cell k _ a e5 ha3
                  have xe := Ext.setC (c := .l (es.set n t)) (o := .lst (ys.set n nv)) s3 e5 rfl ha3
                  refine ⟨a, ys, (n : Int), n, rfl, rfl, q3, ?_, h2 ρ3 σ _ (x3.trans xe) (s3.setC e5 rfl ha3 rfl ⟨_, upd_same, (q4.set rn n).ext xe.keep⟩)⟩
                  rw [q4.1]
                  unfold ixN
                  rw [if_pos (by omega), if_pos (by omega), Int.toNat_natCast]
                | _ => simp only [e5] at h2; exact h2.elim
        | _ => simp only [e2] at h1; exact h1.elim
    | _ => exact h1.elim
end
end RE
set_option maxHeartbeats 2000000
namespace RE.Kx
open PySem PySem.Spec PyProof.Rows L2 RE
def topS (i : Nat) : Stmt := PySem.Challenge.pw_tatamirooms_k07_rooms_and_kinds_refused.main.body.getD i (.Pass ⟨0, 0, 0, 0⟩)
abbrev s_pushed : Stmt := topS 13
abbrev N_pushed : List Str := ["square", "ways", "x", "y", "i", "j"]
abbrev P_pushed : List Str := ["square", "ways"]
theorem sc_pushed : FnScope N_pushed P_pushed (defScope s_pushed) := ⟨rfl, rfl, rfl, by decide +kernel, rfl, by decide +kernel, by decide +kernel⟩
abbrev s_within : Stmt := topS 14
abbrev N_within : List Str := ["room", "pairs", "pair"]
abbrev P_within : List Str := ["room", "pairs"]
theorem sc_within : FnScope N_within P_within (defScope s_within) := ⟨rfl, rfl, rfl, by decide +kernel, rfl, by decide +kernel, by decide +kernel⟩
abbrev s_toward : Stmt := topS 15
abbrev N_toward : List Str := ["square", "kind"]
abbrev P_toward : List Str := ["square", "kind"]
theorem sc_toward : FnScope N_toward P_toward (defScope s_toward) := ⟨rfl, rfl, rfl, by decide +kernel, rfl, by decide +kernel, by decide +kernel⟩
abbrev s_table_of : Stmt := topS 16
abbrev N_table_of : List Str := ["room", "square"]
abbrev P_table_of : List Str := ["room"]
theorem sc_table_of : FnScope N_table_of P_table_of (defScope s_table_of) := ⟨rfl, rfl, rfl, by decide +kernel, rfl, by decide +kernel, by decide +kernel⟩
abbrev s_points_of : Stmt := topS 20
abbrev N_points_of : List Str := ["room", "own", "x", "y"]
abbrev P_points_of : List Str := ["room"]
theorem sc_points_of : FnScope N_points_of P_points_of (defScope s_points_of) := ⟨rfl, rfl, rfl, by decide +kernel, rfl, by decide +kernel, by decide +kernel⟩
abbrev s_needed : Stmt := topS 33
abbrev N_needed : List Str := ["plain"]
abbrev P_needed : List Str := ["plain"]
theorem sc_needed : FnScope N_needed P_needed (defScope s_needed) := ⟨rfl, rfl, rfl, by decide +kernel, rfl, by decide +kernel, by decide +kernel⟩
abbrev s_is_number : Stmt := topS 32
abbrev N_is_number : List Str := ["value"]
abbrev P_is_number : List Str := ["value"]
theorem sc_is_number : FnScope N_is_number P_is_number (defScope s_is_number) := ⟨rfl, rfl, rfl, by decide +kernel, rfl, by decide +kernel, by decide +kernel⟩
abbrev s_plain_pair : Stmt := topS 37
abbrev N_plain_pair : List Str := ["value", "x", "y"]
abbrev P_plain_pair : List Str := ["value"]
theorem sc_plain_pair : FnScope N_plain_pair P_plain_pair (defScope s_plain_pair) := ⟨rfl, rfl, rfl, by decide +kernel, rfl, by decide +kernel, by decide +kernel⟩
abbrev s_plain_square : Stmt := topS 38
abbrev N_plain_square : List Str := ["value", "pair"]
abbrev P_plain_square : List Str := ["value"]
theorem sc_plain_square : FnScope N_plain_square P_plain_square (defScope s_plain_square) := ⟨rfl, rfl, rfl, by decide +kernel, rfl, by decide +kernel, by decide +kernel⟩
abbrev s_plain_number : Stmt := topS 35
abbrev N_plain_number : List Str := ["value", "least", "most"]
abbrev P_plain_number : List Str := ["value", "least", "most"]
theorem sc_plain_number : FnScope N_plain_number P_plain_number (defScope s_plain_number) := ⟨rfl, rfl, rfl, by decide +kernel, rfl, by decide +kernel, by decide +kernel⟩
abbrev s_plain_kind : Stmt := topS 36
abbrev N_plain_kind : List Str := ["value"]
abbrev P_plain_kind : List Str := ["value"]
theorem sc_plain_kind : FnScope N_plain_kind P_plain_kind (defScope s_plain_kind) := ⟨rfl, rfl, rfl, by decide +kernel, rfl, by decide +kernel, by decide +kernel⟩
abbrev s_plain_items : Stmt := topS 39
abbrev N_plain_items : List Str := ["value", "read", "found", "item"]
abbrev P_plain_items : List Str := ["value", "read"]
theorem sc_plain_items : FnScope N_plain_items P_plain_items (defScope s_plain_items) := ⟨rfl, rfl, rfl, by decide +kernel, rfl, by decide +kernel, by decide +kernel⟩
abbrev s_plain_set : Stmt := topS 40
abbrev N_plain_set : List Str := ["value", "read", "items", "at"]
abbrev P_plain_set : List Str := ["value", "read"]
theorem sc_plain_set : FnScope N_plain_set P_plain_set (defScope s_plain_set) := ⟨rfl, rfl, rfl, by decide +kernel, rfl, by decide +kernel, by decide +kernel⟩
abbrev s_plain_room : Stmt := topS 42
abbrev N_plain_room : List Str := ["value"]
abbrev P_plain_room : List Str := ["value"]
theorem sc_plain_room : FnScope N_plain_room P_plain_room (defScope s_plain_room) := ⟨rfl, rfl, rfl, by decide +kernel, rfl, by decide +kernel, by decide +kernel⟩
abbrev s_need_room : Stmt := topS 44
abbrev N_need_room : List Str := ["value"]
abbrev P_need_room : List Str := ["value"]
theorem sc_need_room : FnScope N_need_room P_need_room (defScope s_need_room) := ⟨rfl, rfl, rfl, by decide +kernel, rfl, by decide +kernel, by decide +kernel⟩
abbrev s_points : Stmt := topS 55
abbrev N_points : List Str := ["room"]
abbrev P_points : List Str := ["room"]
theorem sc_points : FnScope N_points P_points (defScope s_points) := ⟨rfl, rfl, rfl, by decide +kernel, rfl, by decide +kernel, by decide +kernel⟩
abbrev s_inner_of : Stmt := topS 17
abbrev N_inner_of : List Str := ["room", "points", "x", "y"]
abbrev P_inner_of : List Str := ["room"]
theorem sc_inner_of : FnScope N_inner_of P_inner_of (defScope s_inner_of) := ⟨rfl, rfl, rfl, by decide +kernel, rfl, by decide +kernel, by decide +kernel⟩
abbrev s_rim_of : Stmt := topS 18
abbrev N_rim_of : List Str := ["room", "held", "square"]
abbrev P_rim_of : List Str := ["room"]
theorem sc_rim_of : FnScope N_rim_of P_rim_of (defScope s_rim_of) := ⟨rfl, rfl, rfl, by decide +kernel, rfl, by decide +kernel, by decide +kernel⟩
abbrev s_four_about : Stmt := topS 19
abbrev N_four_about : List Str := ["point", "x", "y"]
abbrev P_four_about : List Str := ["point"]
theorem sc_four_about : FnScope N_four_about P_four_about (defScope s_four_about) := ⟨rfl, rfl, rfl, by decide +kernel, rfl, by decide +kernel, by decide +kernel⟩
abbrev s_pairs_of : Stmt := topS 21
abbrev N_pairs_of : List Str := ["room", "own", "square", "other"]
abbrev P_pairs_of : List Str := ["room"]
theorem sc_pairs_of : FnScope N_pairs_of P_pairs_of (defScope s_pairs_of) := ⟨rfl, rfl, rfl, by decide +kernel, rfl, by decide +kernel, by decide +kernel⟩
abbrev s_spots_of : Stmt := topS 22
abbrev N_spots_of : List Str := ["room", "singles", "fours", "square", "point"]
abbrev P_spots_of : List Str := ["room"]
theorem sc_spots_of : FnScope N_spots_of P_spots_of (defScope s_spots_of) := ⟨rfl, rfl, rfl, by decide +kernel, rfl, by decide +kernel, by decide +kernel⟩
abbrev s_spots_with : Stmt := topS 23
abbrev N_spots_with : List Str := ["room", "square", "near", "spot"]
abbrev P_spots_with : List Str := ["room", "square"]
theorem sc_spots_with : FnScope N_spots_with P_spots_with (defScope s_spots_with) := ⟨rfl, rfl, rfl, by decide +kernel, rfl, by decide +kernel, by decide +kernel⟩
abbrev s_east_fit : Stmt := topS 24
abbrev N_east_fit : List Str := ["kind", "other"]
abbrev P_east_fit : List Str := ["kind", "other"]
theorem sc_east_fit : FnScope N_east_fit P_east_fit (defScope s_east_fit) := ⟨rfl, rfl, rfl, by decide +kernel, rfl, by decide +kernel, by decide +kernel⟩
abbrev s_south_fit : Stmt := topS 25
abbrev N_south_fit : List Str := ["kind", "other"]
abbrev P_south_fit : List Str := ["kind", "other"]
theorem sc_south_fit : FnScope N_south_fit P_south_fit (defScope s_south_fit) := ⟨rfl, rfl, rfl, by decide +kernel, rfl, by decide +kernel, by decide +kernel⟩
abbrev s_four_fit : Stmt := topS 26
abbrev N_four_fit : List Str := ["kinds", "northwest", "southwest", "northeast", "southeast", "lying", "standing"]
abbrev P_four_fit : List Str := ["kinds"]
theorem sc_four_fit : FnScope N_four_fit P_four_fit (defScope s_four_fit) := ⟨rfl, rfl, rfl, by decide +kernel, rfl, by decide +kernel, by decide +kernel⟩
abbrev s_side_fit : Stmt := topS 27
abbrev N_side_fit : List Str := ["spot", "kinds"]
abbrev P_side_fit : List Str := ["spot", "kinds"]
theorem sc_side_fit : FnScope N_side_fit P_side_fit (defScope s_side_fit) := ⟨rfl, rfl, rfl, by decide +kernel, rfl, by decide +kernel, by decide +kernel⟩
abbrev s_stays : Stmt := topS 28
abbrev N_stays : List Str := ["room", "square", "kind"]
abbrev P_stays : List Str := ["room", "square", "kind"]
theorem sc_stays : FnScope N_stays P_stays (defScope s_stays) := ⟨rfl, rfl, rfl, by decide +kernel, rfl, by decide +kernel, by decide +kernel⟩
abbrev s_spot_fits : Stmt := topS 29
abbrev N_spot_fits : List Str := ["room", "spot", "kinds"]
abbrev P_spot_fits : List Str := ["room", "spot", "kinds"]
theorem sc_spot_fits : FnScope N_spot_fits P_spot_fits (defScope s_spot_fits) := ⟨rfl, rfl, rfl, by decide +kernel, rfl, by decide +kernel, by decide +kernel⟩
abbrev s_kinds_in : Stmt := topS 30
abbrev N_kinds_in : List Str := ["room", "square", "kind"]
abbrev P_kinds_in : List Str := ["room", "square"]
theorem sc_kinds_in : FnScope N_kinds_in P_kinds_in (defScope s_kinds_in) := ⟨rfl, rfl, rfl, by decide +kernel, rfl, by decide +kernel, by decide +kernel⟩
abbrev s_as_told : Stmt := topS 34
abbrev N_as_told : List Str := ["plain", "thing"]
abbrev P_as_told : List Str := ["plain", "thing"]
theorem sc_as_told : FnScope N_as_told P_as_told (defScope s_as_told) := ⟨rfl, rfl, rfl, by decide +kernel, rfl, by decide +kernel, by decide +kernel⟩
abbrev s_plain_pairs : Stmt := topS 41
abbrev N_plain_pairs : List Str := ["value"]
abbrev P_plain_pairs : List Str := ["value"]
theorem sc_plain_pairs : FnScope N_plain_pairs P_plain_pairs (defScope s_plain_pairs) := ⟨rfl, rfl, rfl, by decide +kernel, rfl, by decide +kernel, by decide +kernel⟩
abbrev s_plain_kinds : Stmt := topS 43
abbrev N_plain_kinds : List Str := ["value", "many", "kind"]
abbrev P_plain_kinds : List Str := ["value", "many"]
theorem sc_plain_kinds : FnScope N_plain_kinds P_plain_kinds (defScope s_plain_kinds) := ⟨rfl, rfl, rfl, by decide +kernel, rfl, by decide +kernel, by decide +kernel⟩
abbrev s_need_pair : Stmt := topS 45
abbrev N_need_pair : List Str := ["value"]
abbrev P_need_pair : List Str := ["value"]
theorem sc_need_pair : FnScope N_need_pair P_need_pair (defScope s_need_pair) := ⟨rfl, rfl, rfl, by decide +kernel, rfl, by decide +kernel, by decide +kernel⟩
abbrev s_need_kind : Stmt := topS 46
abbrev N_need_kind : List Str := ["value"]
abbrev P_need_kind : List Str := ["value"]
theorem sc_need_kind : FnScope N_need_kind P_need_kind (defScope s_need_kind) := ⟨rfl, rfl, rfl, by decide +kernel, rfl, by decide +kernel, by decide +kernel⟩
abbrev s_check_square : Stmt := topS 47
abbrev N_check_square : List Str := ["room", "square"]
abbrev P_check_square : List Str := ["room", "square"]
theorem sc_check_square : FnScope N_check_square P_check_square (defScope s_check_square) := ⟨rfl, rfl, rfl, by decide +kernel, rfl, by decide +kernel, by decide +kernel⟩
abbrev s_is_room : Stmt := topS 49
abbrev N_is_room : List Str := ["thing"]
abbrev P_is_room : List Str := ["thing"]
theorem sc_is_room : FnScope N_is_room P_is_room (defScope s_is_room) := ⟨rfl, rfl, rfl, by decide +kernel, rfl, by decide +kernel, by decide +kernel⟩
abbrev s_is_square : Stmt := topS 50
abbrev N_is_square : List Str := ["room", "thing"]
abbrev P_is_square : List Str := ["room", "thing"]
theorem sc_is_square : FnScope N_is_square P_is_square (defScope s_is_square) := ⟨rfl, rfl, rfl, by decide +kernel, rfl, by decide +kernel, by decide +kernel⟩
abbrev s_beside : Stmt := topS 51
abbrev N_beside : List Str := ["room", "square"]
abbrev P_beside : List Str := ["room", "square"]
theorem sc_beside : FnScope N_beside P_beside (defScope s_beside) := ⟨rfl, rfl, rfl, by decide +kernel, rfl, by decide +kernel, by decide +kernel⟩
abbrev s_around : Stmt := topS 52
abbrev N_around : List Str := ["room", "square"]
abbrev P_around : List Str := ["room", "square"]
theorem sc_around : FnScope N_around P_around (defScope s_around) := ⟨rfl, rfl, rfl, by decide +kernel, rfl, by decide +kernel, by decide +kernel⟩
abbrev s_rim : Stmt := topS 53
abbrev N_rim : List Str := ["room"]
abbrev P_rim : List Str := ["room"]
theorem sc_rim : FnScope N_rim P_rim (defScope s_rim) := ⟨rfl, rfl, rfl, by decide +kernel, rfl, by decide +kernel, by decide +kernel⟩
abbrev s_inner : Stmt := topS 54
abbrev N_inner : List Str := ["room"]
abbrev P_inner : List Str := ["room"]
theorem sc_inner : FnScope N_inner P_inner (defScope s_inner) := ⟨rfl, rfl, rfl, by decide +kernel, rfl, by decide +kernel, by decide +kernel⟩
abbrev s_about : Stmt := topS 56
abbrev N_about : List Str := ["room", "point", "four"]
abbrev P_about : List Str := ["room", "point"]
theorem sc_about : FnScope N_about P_about (defScope s_about) := ⟨rfl, rfl, rfl, by decide +kernel, rfl, by decide +kernel, by decide +kernel⟩
abbrev s_sizes : Stmt := topS 57
abbrev N_sizes : List Str := ["room"]
abbrev P_sizes : List Str := ["room"]
theorem sc_sizes : FnScope N_sizes P_sizes (defScope s_sizes) := ⟨rfl, rfl, rfl, by decide +kernel, rfl, by decide +kernel, by decide +kernel⟩
abbrev s_lot_from : Stmt := topS 58
abbrev N_lot_from : List Str := ["start", "ways", "cells", "passed", "found", "waiting", "other"]
abbrev P_lot_from : List Str := ["start", "ways", "cells", "passed"]
theorem sc_lot_from : FnScope N_lot_from P_lot_from (defScope s_lot_from) := ⟨rfl, rfl, rfl, by decide +kernel, rfl, by decide +kernel, by decide +kernel⟩
abbrev s_lots : Stmt := topS 59
abbrev N_lots : List Str := ["cells", "ways", "passed", "found", "cell"]
abbrev P_lots : List Str := ["cells", "ways"]
theorem sc_lots : FnScope N_lots P_lots (defScope s_lots) := ⟨rfl, rfl, rfl, by decide +kernel, rfl, by decide +kernel, by decide +kernel⟩
abbrev s_pieces : Stmt := topS 60
abbrev N_pieces : List Str := ["room"]
abbrev P_pieces : List Str := ["room"]
theorem sc_pieces : FnScope N_pieces P_pieces (defScope s_pieces) := ⟨rfl, rfl, rfl, by decide +kernel, rfl, by decide +kernel, by decide +kernel⟩
abbrev s_drawn_in : Stmt := topS 61
abbrev N_drawn_in : List Str := ["numbers", "found", "place", "number"]
abbrev P_drawn_in : List Str := ["numbers"]
theorem sc_drawn_in : FnScope N_drawn_in P_drawn_in (defScope s_drawn_in) := ⟨rfl, rfl, rfl, by decide +kernel, rfl, by decide +kernel, by decide +kernel⟩
abbrev s_pillars : Stmt := topS 62
abbrev N_pillars : List Str := ["room", "across", "down", "taken", "wide", "high", "free", "x", "y", "_"]
abbrev P_pillars : List Str := ["room"]
theorem sc_pillars : FnScope N_pillars P_pillars (defScope s_pillars) := ⟨rfl, rfl, rfl, by decide +kernel, rfl, by decide +kernel, by decide +kernel⟩
abbrev s_box_of : Stmt := topS 63
abbrev N_box_of : List Str := ["room", "ys", "_", "y"]
abbrev P_box_of : List Str := ["room"]
theorem sc_box_of : FnScope N_box_of P_box_of (defScope s_box_of) := ⟨rfl, rfl, rfl, by decide +kernel, rfl, by decide +kernel, by decide +kernel⟩
abbrev s_boxed : Stmt := topS 64
abbrev N_boxed : List Str := ["high", "wide", "x", "y"]
abbrev P_boxed : List Str := ["high", "wide"]
theorem sc_boxed : FnScope N_boxed P_boxed (defScope s_boxed) := ⟨rfl, rfl, rfl, by decide +kernel, rfl, by decide +kernel, by decide +kernel⟩
abbrev s_square_more : Stmt := topS 65
abbrev N_square_more : List Str := ["room", "square"]
abbrev P_square_more : List Str := ["room", "square"]
theorem sc_square_more : FnScope N_square_more P_square_more (defScope s_square_more) := ⟨rfl, rfl, rfl, by decide +kernel, rfl, by decide +kernel, by decide +kernel⟩
abbrev s_square_less : Stmt := topS 66
abbrev N_square_less : List Str := ["room", "square", "own"]
abbrev P_square_less : List Str := ["room", "square"]
theorem sc_square_less : FnScope N_square_less P_square_less (defScope s_square_less) := ⟨rfl, rfl, rfl, by decide +kernel, rfl, by decide +kernel, by decide +kernel⟩
abbrev s_is_kind : Stmt := topS 68
abbrev N_is_kind : List Str := ["thing"]
abbrev P_is_kind : List Str := ["thing"]
theorem sc_is_kind : FnScope N_is_kind P_is_kind (defScope s_is_kind) := ⟨rfl, rfl, rfl, by decide +kernel, rfl, by decide +kernel, by decide +kernel⟩
abbrev s_is_laid : Stmt := topS 69
abbrev N_is_laid : List Str := ["room", "thing"]
abbrev P_is_laid : List Str := ["room", "thing"]
theorem sc_is_laid : FnScope N_is_laid P_is_laid (defScope s_is_laid) := ⟨rfl, rfl, rfl, by decide +kernel, rfl, by decide +kernel, by decide +kernel⟩
abbrev s_plain_spot : Stmt := topS 70
abbrev N_plain_spot : List Str := ["room", "value", "spot"]
abbrev P_plain_spot : List Str := ["room", "value"]
theorem sc_plain_spot : FnScope N_plain_spot P_plain_spot (defScope s_plain_spot) := ⟨rfl, rfl, rfl, by decide +kernel, rfl, by decide +kernel, by decide +kernel⟩
abbrev s_is_spot : Stmt := topS 71
abbrev N_is_spot : List Str := ["room", "thing"]
abbrev P_is_spot : List Str := ["room", "thing"]
theorem sc_is_spot : FnScope N_is_spot P_is_spot (defScope s_is_spot) := ⟨rfl, rfl, rfl, by decide +kernel, rfl, by decide +kernel, by decide +kernel⟩
abbrev s_kinds_at : Stmt := topS 72
abbrev N_kinds_at : List Str := ["room", "square"]
abbrev P_kinds_at : List Str := ["room", "square"]
theorem sc_kinds_at : FnScope N_kinds_at P_kinds_at (defScope s_kinds_at) := ⟨rfl, rfl, rfl, by decide +kernel, rfl, by decide +kernel, by decide +kernel⟩
abbrev s_joined_with : Stmt := topS 73
abbrev N_joined_with : List Str := ["room", "square", "kind", "other"]
abbrev P_joined_with : List Str := ["room", "square", "kind"]
theorem sc_joined_with : FnScope N_joined_with P_joined_with (defScope s_joined_with) := ⟨rfl, rfl, rfl, by decide +kernel, rfl, by decide +kernel, by decide +kernel⟩
abbrev s_fits_east : Stmt := topS 74
abbrev N_fits_east : List Str := ["kind", "other"]
abbrev P_fits_east : List Str := ["kind", "other"]
theorem sc_fits_east : FnScope N_fits_east P_fits_east (defScope s_fits_east) := ⟨rfl, rfl, rfl, by decide +kernel, rfl, by decide +kernel, by decide +kernel⟩
abbrev s_fits_south : Stmt := topS 75
abbrev N_fits_south : List Str := ["kind", "other"]
abbrev P_fits_south : List Str := ["kind", "other"]
theorem sc_fits_south : FnScope N_fits_south P_fits_south (defScope s_fits_south) := ⟨rfl, rfl, rfl, by decide +kernel, rfl, by decide +kernel, by decide +kernel⟩
abbrev s_point_fits : Stmt := topS 76
abbrev N_point_fits : List Str := ["kinds"]
abbrev P_point_fits : List Str := ["kinds"]
theorem sc_point_fits : FnScope N_point_fits P_point_fits (defScope s_point_fits) := ⟨rfl, rfl, rfl, by decide +kernel, rfl, by decide +kernel, by decide +kernel⟩
abbrev s_spots : Stmt := topS 77
abbrev N_spots : List Str := ["room"]
abbrev P_spots : List Str := ["room"]
theorem sc_spots : FnScope N_spots P_spots (defScope s_spots) := ⟨rfl, rfl, rfl, by decide +kernel, rfl, by decide +kernel, by decide +kernel⟩
abbrev s_spots_at : Stmt := topS 78
abbrev N_spots_at : List Str := ["room", "square"]
abbrev P_spots_at : List Str := ["room", "square"]
theorem sc_spots_at : FnScope N_spots_at P_spots_at (defScope s_spots_at) := ⟨rfl, rfl, rfl, by decide +kernel, rfl, by decide +kernel, by decide +kernel⟩
abbrev s_fits_at : Stmt := topS 79
abbrev N_fits_at : List Str := ["room", "laid", "spot", "kinds", "square"]
abbrev P_fits_at : List Str := ["room", "laid", "spot"]
theorem sc_fits_at : FnScope N_fits_at P_fits_at (defScope s_fits_at) := ⟨rfl, rfl, rfl, by decide +kernel, rfl, by decide +kernel, by decide +kernel⟩
abbrev s_fitting : Stmt := topS 80
abbrev N_fitting : List Str := ["room", "spot", "own", "rows", "square", "row", "kind"]
abbrev P_fitting : List Str := ["room", "spot"]
theorem sc_fitting : FnScope N_fitting P_fitting (defScope s_fitting) := ⟨rfl, rfl, rfl, by decide +kernel, rfl, by decide +kernel, by decide +kernel⟩
abbrev s__law_box : Stmt := topS 82
abbrev N__law_box : List Str := ["script", "k", "bit_so"]
abbrev P__law_box : List Str := ["script", "k"]
theorem sc__law_box : FnScope N__law_box P__law_box (defScope s__law_box) := ⟨rfl, rfl, rfl, by decide +kernel, rfl, by decide +kernel, by decide +kernel⟩
abbrev s__law_take : Stmt := topS 83
abbrev N__law_take : List Str := ["tin", "below_so", "drawn_so", "once_so", "wide_so", "twice_so"]
abbrev P__law_take : List Str := ["tin", "below_so"]
theorem sc__law_take : FnScope N__law_take P__law_take (defScope s__law_take) := ⟨rfl, rfl, rfl, by decide +kernel, rfl, by decide +kernel, by decide +kernel⟩
abbrev s__law_cells : Stmt := topS 84
abbrev N__law_cells : List Str := ["script", "most_so", "cells_so", "k", "bit_so", "at_so"]
abbrev P__law_cells : List Str := ["script", "most_so"]
theorem sc__law_cells : FnScope N__law_cells P__law_cells (defScope s__law_cells) := ⟨rfl, rfl, rfl, by decide +kernel, rfl, by decide +kernel, by decide +kernel⟩
abbrev s__law_lists : Stmt := topS 85
abbrev N__law_lists : List Str := ["matter", "bit"]
abbrev P__law_lists : List Str := ["matter"]
theorem sc__law_lists : FnScope N__law_lists P__law_lists (defScope s__law_lists) := ⟨rfl, rfl, rfl, by decide +kernel, rfl, by decide +kernel, by decide +kernel⟩
abbrev s__law_same : Stmt := topS 86
abbrev N__law_same : List Str := ["got", "due", "mine", "its"]
abbrev P__law_same : List Str := ["got", "due"]
theorem sc__law_same : FnScope N__law_same P__law_same (defScope s__law_same) := ⟨rfl, rfl, rfl, by decide +kernel, rfl, by decide +kernel, by decide +kernel⟩
abbrev s__law_nook : Stmt := topS 87
abbrev N__law_nook : List Str := []
abbrev P__law_nook : List Str := []
theorem sc__law_nook : FnScope N__law_nook P__law_nook (defScope s__law_nook) := ⟨rfl, rfl, rfl, by decide +kernel, rfl, by decide +kernel, by decide +kernel⟩
abbrev s__law_room_asked : Stmt := topS 88
abbrev N__law_room_asked : List Str := ["door", "own"]
abbrev P__law_room_asked : List Str := ["door", "own"]
theorem sc__law_room_asked : FnScope N__law_room_asked P__law_room_asked (defScope s__law_room_asked) := ⟨rfl, rfl, rfl, by decide +kernel, rfl, by decide +kernel, by decide +kernel⟩
abbrev s__law_part_asked : Stmt := topS 89
abbrev N__law_part_asked : List Str := ["door", "own", "nook"]
abbrev P__law_part_asked : List Str := ["door", "own"]
theorem sc__law_part_asked : FnScope N__law_part_asked P__law_part_asked (defScope s__law_part_asked) := ⟨rfl, rfl, rfl, by decide +kernel, rfl, by decide +kernel, by decide +kernel⟩
abbrev s__law_kind_asked : Stmt := topS 90
abbrev N__law_kind_asked : List Str := ["door", "own"]
abbrev P__law_kind_asked : List Str := ["door", "own"]
theorem sc__law_kind_asked : FnScope N__law_kind_asked P__law_kind_asked (defScope s__law_kind_asked) := ⟨rfl, rfl, rfl, by decide +kernel, rfl, by decide +kernel, by decide +kernel⟩
abbrev s__law_laid_asked : Stmt := topS 91
abbrev N__law_laid_asked : List Str := ["door", "own"]
abbrev P__law_laid_asked : List Str := ["door", "own"]
theorem sc__law_laid_asked : FnScope N__law_laid_asked P__law_laid_asked (defScope s__law_laid_asked) := ⟨rfl, rfl, rfl, by decide +kernel, rfl, by decide +kernel, by decide +kernel⟩
abbrev s__law_box_asked : Stmt := topS 92
abbrev N__law_box_asked : List Str := ["door", "own"]
abbrev P__law_box_asked : List Str := ["door", "own"]
theorem sc__law_box_asked : FnScope N__law_box_asked P__law_box_asked (defScope s__law_box_asked) := ⟨rfl, rfl, rfl, by decide +kernel, rfl, by decide +kernel, by decide +kernel⟩
abbrev s__law_heard : Stmt := topS 93
abbrev N__law_heard : List Str := ["which", "door", "own", "found", "error"]
abbrev P__law_heard : List Str := ["which", "door", "own"]
theorem sc__law_heard : FnScope N__law_heard P__law_heard (defScope s__law_heard) := ⟨rfl, rfl, rfl, by decide +kernel, rfl, by decide +kernel, by decide +kernel⟩
abbrev s__law_last_heard : Stmt := topS 94
abbrev N__law_last_heard : List Str := ["own", "found", "error"]
abbrev P__law_last_heard : List Str := ["own"]
theorem sc__law_last_heard : FnScope N__law_last_heard P__law_last_heard (defScope s__law_last_heard) := ⟨rfl, rfl, rfl, by decide +kernel, rfl, by decide +kernel, by decide +kernel⟩
abbrev s__law_out_heard : Stmt := topS 95
abbrev N__law_out_heard : List Str := ["found"]
abbrev P__law_out_heard : List Str := []
theorem sc__law_out_heard : FnScope N__law_out_heard P__law_out_heard (defScope s__law_out_heard) := ⟨rfl, rfl, rfl, by decide +kernel, rfl, by decide +kernel, by decide +kernel⟩
abbrev s__law_none_right : Stmt := topS 96
abbrev N__law_none_right : List Str := ["got", "due", "own", "door"]
abbrev P__law_none_right : List Str := []
theorem sc__law_none_right : FnScope N__law_none_right P__law_none_right (defScope s__law_none_right) := ⟨rfl, rfl, rfl, by decide +kernel, rfl, by decide +kernel, by decide +kernel⟩
abbrev s__law_refused_right : Stmt := topS 97
abbrev N__law_refused_right : List Str := ["got", "own", "door"]
abbrev P__law_refused_right : List Str := []
theorem sc__law_refused_right : FnScope N__law_refused_right P__law_refused_right (defScope s__law_refused_right) := ⟨rfl, rfl, rfl, by decide +kernel, rfl, by decide +kernel, by decide +kernel⟩
abbrev s__law_soft_right : Stmt := topS 98
abbrev N__law_soft_right : List Str := ["nook", "two", "got", "due"]
abbrev P__law_soft_right : List Str := []
theorem sc__law_soft_right : FnScope N__law_soft_right P__law_soft_right (defScope s__law_soft_right) := ⟨rfl, rfl, rfl, by decide +kernel, rfl, by decide +kernel, by decide +kernel⟩
abbrev s_law : Stmt := topS 99
abbrev N_law : List Str := ["script"]
abbrev P_law : List Str := ["script"]
theorem sc_law : FnScope N_law P_law (defScope s_law) := ⟨rfl, rfl, rfl, by decide +kernel, rfl, by decide +kernel, by decide +kernel⟩
abbrev si_NoPoint : Stmt := match topS 1 with
  | .ClassDef (body := b) .. => b.getD 0 (.Pass ⟨0, 0, 0, 0⟩)
  | s => s
theorem sc_i_NoPoint : FnScope ["self", "point"] ["self", "point"] (defScope si_NoPoint) := ⟨rfl, rfl, rfl, by decide +kernel, rfl, by decide +kernel, by decide +kernel⟩
abbrev si_NoSquare : Stmt := match topS 2 with
  | .ClassDef (body := b) .. => b.getD 0 (.Pass ⟨0, 0, 0, 0⟩)
  | s => s
theorem sc_i_NoSquare : FnScope ["self", "square"] ["self", "square"] (defScope si_NoSquare) := ⟨rfl, rfl, rfl, by decide +kernel, rfl, by decide +kernel, by decide +kernel⟩
abbrev si_CanNot : Stmt := match topS 3 with
  | .ClassDef (body := b) .. => b.getD 0 (.Pass ⟨0, 0, 0, 0⟩)
  | s => s
theorem sc_i_CanNot : FnScope ["self"] ["self"] (defScope si_CanNot) := ⟨rfl, rfl, rfl, by decide +kernel, rfl, by decide +kernel, by decide +kernel⟩
abbrev si_Unfit : Stmt := match topS 4 with
  | .ClassDef (body := b) .. => b.getD 0 (.Pass ⟨0, 0, 0, 0⟩)
  | s => s
theorem sc_i_Unfit : FnScope ["self"] ["self"] (defScope si_Unfit) := ⟨rfl, rfl, rfl, by decide +kernel, rfl, by decide +kernel, by decide +kernel⟩
/-- what the top has written -/
structure Tx (mg : Str → Option Value) (g : G) (fd : Nat → FuncData) (iA : Nat → Addr) (iF : Nat → FuncData) : Prop where
  F_pushed : Fun g.K "pushed" "pushed" s_pushed (g.F 0) (fd 0)
  b_pushed : Binds g.K (fd 0) P_pushed []
  m_pushed : mg "pushed" = some (.ref (g.F 0))
  F_within : Fun g.K "within" "within" s_within (g.F 1) (fd 1)
  b_within : Binds g.K (fd 1) P_within []
  m_within : mg "within" = some (.ref (g.F 1))
  F_toward : Fun g.K "toward" "toward" s_toward (g.F 2) (fd 2)
  b_toward : Binds g.K (fd 2) P_toward []
  m_toward : mg "toward" = some (.ref (g.F 2))
  F_table_of : Fun g.K "table_of" "table_of" s_table_of (g.F 3) (fd 3)
  b_table_of : Binds g.K (fd 3) P_table_of []
  m_table_of : mg "table_of" = some (.ref (g.F 3))
  F_points_of : Fun g.K "points_of" "points_of" s_points_of (g.F 7) (fd 7)
  b_points_of : Binds g.K (fd 7) P_points_of []
  m_points_of : mg "points_of" = some (.ref (g.F 7))
  F_needed : Fun g.K "needed" "needed" s_needed (g.F 19) (fd 19)
  b_needed : Binds g.K (fd 19) P_needed []
  m_needed : mg "needed" = some (.ref (g.F 19))
  F_is_number : Fun g.K "is_number" "is_number" s_is_number (g.F 18) (fd 18)
  b_is_number : Binds g.K (fd 18) P_is_number []
  m_is_number : mg "is_number" = some (.ref (g.F 18))
  F_plain_pair : Fun g.K "plain_pair" "plain_pair" s_plain_pair (g.F 23) (fd 23)
  b_plain_pair : Binds g.K (fd 23) P_plain_pair []
  m_plain_pair : mg "plain_pair" = some (.ref (g.F 23))
  F_plain_square : Fun g.K "plain_square" "plain_square" s_plain_square (g.F 24) (fd 24)
  b_plain_square : Binds g.K (fd 24) P_plain_square []
  m_plain_square : mg "plain_square" = some (.ref (g.F 24))
  F_plain_number : FunD g.K "plain_number" "plain_number" (defArgs s_plain_number) (defBody s_plain_number) (defScope s_plain_number) [V.non] [] (g.F 21) (fd 21)
  b_plain_number_0 : ∃ ds, Vals ([V.non].drop 0) ds ∧ Binds g.K (fd 21) P_plain_number ds
  b_plain_number_1 : ∃ ds, Vals ([V.non].drop 1) ds ∧ Binds g.K (fd 21) P_plain_number ds
  m_plain_number : mg "plain_number" = some (.ref (g.F 21))
  F_plain_kind : Fun g.K "plain_kind" "plain_kind" s_plain_kind (g.F 22) (fd 22)
  b_plain_kind : Binds g.K (fd 22) P_plain_kind []
  m_plain_kind : mg "plain_kind" = some (.ref (g.F 22))
  F_plain_items : Fun g.K "plain_items" "plain_items" s_plain_items (g.F 25) (fd 25)
  b_plain_items : Binds g.K (fd 25) P_plain_items []
  m_plain_items : mg "plain_items" = some (.ref (g.F 25))
  F_plain_set : Fun g.K "plain_set" "plain_set" s_plain_set (g.F 26) (fd 26)
  b_plain_set : Binds g.K (fd 26) P_plain_set []
  m_plain_set : mg "plain_set" = some (.ref (g.F 26))
  F_plain_room : Fun g.K "plain_room" "plain_room" s_plain_room (g.F 28) (fd 28)
  b_plain_room : Binds g.K (fd 28) P_plain_room []
  m_plain_room : mg "plain_room" = some (.ref (g.F 28))
  F_need_room : Fun g.K "need_room" "need_room" s_need_room (g.F 30) (fd 30)
  b_need_room : Binds g.K (fd 30) P_need_room []
  m_need_room : mg "need_room" = some (.ref (g.F 30))
  w_points_0 : KwOk g.K (fd 40) P_points ["room"] [0]
  F_points : Fun g.K "points" "points" s_points (g.F 40) (fd 40)
  b_points : Binds g.K (fd 40) P_points []
  m_points : mg "points" = some (.ref (g.F 40))
  F_inner_of : Fun g.K "inner_of" "inner_of" s_inner_of (g.F 4) (fd 4)
  b_inner_of : Binds g.K (fd 4) P_inner_of []
  m_inner_of : mg "inner_of" = some (.ref (g.F 4))
  F_rim_of : Fun g.K "rim_of" "rim_of" s_rim_of (g.F 5) (fd 5)
  b_rim_of : Binds g.K (fd 5) P_rim_of []
  m_rim_of : mg "rim_of" = some (.ref (g.F 5))
  F_four_about : Fun g.K "four_about" "four_about" s_four_about (g.F 6) (fd 6)
  b_four_about : Binds g.K (fd 6) P_four_about []
  m_four_about : mg "four_about" = some (.ref (g.F 6))
  F_pairs_of : Fun g.K "pairs_of" "pairs_of" s_pairs_of (g.F 8) (fd 8)
  b_pairs_of : Binds g.K (fd 8) P_pairs_of []
  m_pairs_of : mg "pairs_of" = some (.ref (g.F 8))
  F_spots_of : Fun g.K "spots_of" "spots_of" s_spots_of (g.F 9) (fd 9)
  b_spots_of : Binds g.K (fd 9) P_spots_of []
  m_spots_of : mg "spots_of" = some (.ref (g.F 9))
  F_spots_with : Fun g.K "spots_with" "spots_with" s_spots_with (g.F 10) (fd 10)
  b_spots_with : Binds g.K (fd 10) P_spots_with []
  m_spots_with : mg "spots_with" = some (.ref (g.F 10))
  F_east_fit : Fun g.K "east_fit" "east_fit" s_east_fit (g.F 11) (fd 11)
  b_east_fit : Binds g.K (fd 11) P_east_fit []
  m_east_fit : mg "east_fit" = some (.ref (g.F 11))
  F_south_fit : Fun g.K "south_fit" "south_fit" s_south_fit (g.F 12) (fd 12)
  b_south_fit : Binds g.K (fd 12) P_south_fit []
  m_south_fit : mg "south_fit" = some (.ref (g.F 12))
  F_four_fit : Fun g.K "four_fit" "four_fit" s_four_fit (g.F 13) (fd 13)
  b_four_fit : Binds g.K (fd 13) P_four_fit []
  m_four_fit : mg "four_fit" = some (.ref (g.F 13))
  F_side_fit : Fun g.K "side_fit" "side_fit" s_side_fit (g.F 14) (fd 14)
  b_side_fit : Binds g.K (fd 14) P_side_fit []
  m_side_fit : mg "side_fit" = some (.ref (g.F 14))
  F_stays : Fun g.K "stays" "stays" s_stays (g.F 15) (fd 15)
  b_stays : Binds g.K (fd 15) P_stays []
  m_stays : mg "stays" = some (.ref (g.F 15))
  F_spot_fits : Fun g.K "spot_fits" "spot_fits" s_spot_fits (g.F 16) (fd 16)
  b_spot_fits : Binds g.K (fd 16) P_spot_fits []
  m_spot_fits : mg "spot_fits" = some (.ref (g.F 16))
  F_kinds_in : Fun g.K "kinds_in" "kinds_in" s_kinds_in (g.F 17) (fd 17)
  b_kinds_in : Binds g.K (fd 17) P_kinds_in []
  m_kinds_in : mg "kinds_in" = some (.ref (g.F 17))
  F_as_told : Fun g.K "as_told" "as_told" s_as_told (g.F 20) (fd 20)
  b_as_told : Binds g.K (fd 20) P_as_told []
  m_as_told : mg "as_told" = some (.ref (g.F 20))
  F_plain_pairs : Fun g.K "plain_pairs" "plain_pairs" s_plain_pairs (g.F 27) (fd 27)
  b_plain_pairs : Binds g.K (fd 27) P_plain_pairs []
  m_plain_pairs : mg "plain_pairs" = some (.ref (g.F 27))
  F_plain_kinds : Fun g.K "plain_kinds" "plain_kinds" s_plain_kinds (g.F 29) (fd 29)
  b_plain_kinds : Binds g.K (fd 29) P_plain_kinds []
  m_plain_kinds : mg "plain_kinds" = some (.ref (g.F 29))
  F_need_pair : Fun g.K "need_pair" "need_pair" s_need_pair (g.F 31) (fd 31)
  b_need_pair : Binds g.K (fd 31) P_need_pair []
  m_need_pair : mg "need_pair" = some (.ref (g.F 31))
  F_need_kind : Fun g.K "need_kind" "need_kind" s_need_kind (g.F 32) (fd 32)
  b_need_kind : Binds g.K (fd 32) P_need_kind []
  m_need_kind : mg "need_kind" = some (.ref (g.F 32))
  F_check_square : Fun g.K "check_square" "check_square" s_check_square (g.F 33) (fd 33)
  b_check_square : Binds g.K (fd 33) P_check_square []
  m_check_square : mg "check_square" = some (.ref (g.F 33))
  w_is_room_0 : KwOk g.K (fd 34) P_is_room ["thing"] [0]
  F_is_room : Fun g.K "is_room" "is_room" s_is_room (g.F 34) (fd 34)
  b_is_room : Binds g.K (fd 34) P_is_room []
  m_is_room : mg "is_room" = some (.ref (g.F 34))
  w_is_square_0 : KwOk g.K (fd 35) P_is_square ["thing", "room"] [1, 0]
  F_is_square : Fun g.K "is_square" "is_square" s_is_square (g.F 35) (fd 35)
  b_is_square : Binds g.K (fd 35) P_is_square []
  m_is_square : mg "is_square" = some (.ref (g.F 35))
  w_beside_0 : KwOk g.K (fd 36) P_beside ["square", "room"] [1, 0]
  F_beside : Fun g.K "beside" "beside" s_beside (g.F 36) (fd 36)
  b_beside : Binds g.K (fd 36) P_beside []
  m_beside : mg "beside" = some (.ref (g.F 36))
  w_around_0 : KwOk g.K (fd 37) P_around ["square", "room"] [1, 0]
  F_around : Fun g.K "around" "around" s_around (g.F 37) (fd 37)
  b_around : Binds g.K (fd 37) P_around []
  m_around : mg "around" = some (.ref (g.F 37))
  w_rim_0 : KwOk g.K (fd 38) P_rim ["room"] [0]
  F_rim : Fun g.K "rim" "rim" s_rim (g.F 38) (fd 38)
  b_rim : Binds g.K (fd 38) P_rim []
  m_rim : mg "rim" = some (.ref (g.F 38))
  w_inner_0 : KwOk g.K (fd 39) P_inner ["room"] [0]
  F_inner : Fun g.K "inner" "inner" s_inner (g.F 39) (fd 39)
  b_inner : Binds g.K (fd 39) P_inner []
  m_inner : mg "inner" = some (.ref (g.F 39))
  w_about_0 : KwOk g.K (fd 41) P_about ["point", "room"] [1, 0]
  F_about : Fun g.K "about" "about" s_about (g.F 41) (fd 41)
  b_about : Binds g.K (fd 41) P_about []
  m_about : mg "about" = some (.ref (g.F 41))
  w_sizes_0 : KwOk g.K (fd 42) P_sizes ["room"] [0]
  F_sizes : Fun g.K "sizes" "sizes" s_sizes (g.F 42) (fd 42)
  b_sizes : Binds g.K (fd 42) P_sizes []
  m_sizes : mg "sizes" = some (.ref (g.F 42))
  F_lot_from : Fun g.K "lot_from" "lot_from" s_lot_from (g.F 43) (fd 43)
  b_lot_from : Binds g.K (fd 43) P_lot_from []
  m_lot_from : mg "lot_from" = some (.ref (g.F 43))
  F_lots : Fun g.K "lots" "lots" s_lots (g.F 44) (fd 44)
  b_lots : Binds g.K (fd 44) P_lots []
  m_lots : mg "lots" = some (.ref (g.F 44))
  w_pieces_0 : KwOk g.K (fd 45) P_pieces ["room"] [0]
  F_pieces : Fun g.K "pieces" "pieces" s_pieces (g.F 45) (fd 45)
  b_pieces : Binds g.K (fd 45) P_pieces []
  m_pieces : mg "pieces" = some (.ref (g.F 45))
  F_drawn_in : Fun g.K "drawn_in" "drawn_in" s_drawn_in (g.F 46) (fd 46)
  b_drawn_in : Binds g.K (fd 46) P_drawn_in []
  m_drawn_in : mg "drawn_in" = some (.ref (g.F 46))
  w_pillars_0 : KwOk g.K (fd 47) P_pillars ["room"] [0]
  F_pillars : Fun g.K "pillars" "pillars" s_pillars (g.F 47) (fd 47)
  b_pillars : Binds g.K (fd 47) P_pillars []
  m_pillars : mg "pillars" = some (.ref (g.F 47))
  w_box_of_0 : KwOk g.K (fd 48) P_box_of ["room"] [0]
  F_box_of : Fun g.K "box_of" "box_of" s_box_of (g.F 48) (fd 48)
  b_box_of : Binds g.K (fd 48) P_box_of []
  m_box_of : mg "box_of" = some (.ref (g.F 48))
  w_boxed_0 : KwOk g.K (fd 49) P_boxed ["wide", "high"] [1, 0]
  F_boxed : Fun g.K "boxed" "boxed" s_boxed (g.F 49) (fd 49)
  b_boxed : Binds g.K (fd 49) P_boxed []
  m_boxed : mg "boxed" = some (.ref (g.F 49))
  w_square_more_0 : KwOk g.K (fd 50) P_square_more ["square", "room"] [1, 0]
  F_square_more : Fun g.K "square_more" "square_more" s_square_more (g.F 50) (fd 50)
  b_square_more : Binds g.K (fd 50) P_square_more []
  m_square_more : mg "square_more" = some (.ref (g.F 50))
  w_square_less_0 : KwOk g.K (fd 51) P_square_less ["square", "room"] [1, 0]
  F_square_less : Fun g.K "square_less" "square_less" s_square_less (g.F 51) (fd 51)
  b_square_less : Binds g.K (fd 51) P_square_less []
  m_square_less : mg "square_less" = some (.ref (g.F 51))
  w_is_kind_0 : KwOk g.K (fd 52) P_is_kind ["thing"] [0]
  F_is_kind : Fun g.K "is_kind" "is_kind" s_is_kind (g.F 52) (fd 52)
  b_is_kind : Binds g.K (fd 52) P_is_kind []
  m_is_kind : mg "is_kind" = some (.ref (g.F 52))
  w_is_laid_0 : KwOk g.K (fd 53) P_is_laid ["thing", "room"] [1, 0]
  F_is_laid : Fun g.K "is_laid" "is_laid" s_is_laid (g.F 53) (fd 53)
  b_is_laid : Binds g.K (fd 53) P_is_laid []
  m_is_laid : mg "is_laid" = some (.ref (g.F 53))
  F_plain_spot : Fun g.K "plain_spot" "plain_spot" s_plain_spot (g.F 54) (fd 54)
  b_plain_spot : Binds g.K (fd 54) P_plain_spot []
  m_plain_spot : mg "plain_spot" = some (.ref (g.F 54))
  w_is_spot_0 : KwOk g.K (fd 55) P_is_spot ["thing", "room"] [1, 0]
  F_is_spot : Fun g.K "is_spot" "is_spot" s_is_spot (g.F 55) (fd 55)
  b_is_spot : Binds g.K (fd 55) P_is_spot []
  m_is_spot : mg "is_spot" = some (.ref (g.F 55))
  w_kinds_at_0 : KwOk g.K (fd 56) P_kinds_at ["square", "room"] [1, 0]
  F_kinds_at : Fun g.K "kinds_at" "kinds_at" s_kinds_at (g.F 56) (fd 56)
  b_kinds_at : Binds g.K (fd 56) P_kinds_at []
  m_kinds_at : mg "kinds_at" = some (.ref (g.F 56))
  w_joined_with_0 : KwOk g.K (fd 57) P_joined_with ["kind", "square", "room"] [2, 1, 0]
  F_joined_with : Fun g.K "joined_with" "joined_with" s_joined_with (g.F 57) (fd 57)
  b_joined_with : Binds g.K (fd 57) P_joined_with []
  m_joined_with : mg "joined_with" = some (.ref (g.F 57))
  w_fits_east_0 : KwOk g.K (fd 58) P_fits_east ["other", "kind"] [1, 0]
  F_fits_east : Fun g.K "fits_east" "fits_east" s_fits_east (g.F 58) (fd 58)
  b_fits_east : Binds g.K (fd 58) P_fits_east []
  m_fits_east : mg "fits_east" = some (.ref (g.F 58))
  w_fits_south_0 : KwOk g.K (fd 59) P_fits_south ["other", "kind"] [1, 0]
  F_fits_south : Fun g.K "fits_south" "fits_south" s_fits_south (g.F 59) (fd 59)
  b_fits_south : Binds g.K (fd 59) P_fits_south []
  m_fits_south : mg "fits_south" = some (.ref (g.F 59))
  w_point_fits_0 : KwOk g.K (fd 60) P_point_fits ["kinds"] [0]
  F_point_fits : Fun g.K "point_fits" "point_fits" s_point_fits (g.F 60) (fd 60)
  b_point_fits : Binds g.K (fd 60) P_point_fits []
  m_point_fits : mg "point_fits" = some (.ref (g.F 60))
  w_spots_0 : KwOk g.K (fd 61) P_spots ["room"] [0]
  F_spots : Fun g.K "spots" "spots" s_spots (g.F 61) (fd 61)
  b_spots : Binds g.K (fd 61) P_spots []
  m_spots : mg "spots" = some (.ref (g.F 61))
  w_spots_at_0 : KwOk g.K (fd 62) P_spots_at ["square", "room"] [1, 0]
  F_spots_at : Fun g.K "spots_at" "spots_at" s_spots_at (g.F 62) (fd 62)
  b_spots_at : Binds g.K (fd 62) P_spots_at []
  m_spots_at : mg "spots_at" = some (.ref (g.F 62))
  w_fits_at_0 : KwOk g.K (fd 63) P_fits_at ["spot", "laid", "room"] [2, 1, 0]
  F_fits_at : Fun g.K "fits_at" "fits_at" s_fits_at (g.F 63) (fd 63)
  b_fits_at : Binds g.K (fd 63) P_fits_at []
  m_fits_at : mg "fits_at" = some (.ref (g.F 63))
  w_fitting_0 : KwOk g.K (fd 64) P_fitting ["spot", "room"] [1, 0]
  F_fitting : Fun g.K "fitting" "fitting" s_fitting (g.F 64) (fd 64)
  b_fitting : Binds g.K (fd 64) P_fitting []
  m_fitting : mg "fitting" = some (.ref (g.F 64))
  F__law_box : Fun g.K "_law_box" "_law_box" s__law_box (g.F 65) (fd 65)
  b__law_box : Binds g.K (fd 65) P__law_box []
  m__law_box : mg "_law_box" = some (.ref (g.F 65))
  F__law_take : Fun g.K "_law_take" "_law_take" s__law_take (g.F 66) (fd 66)
  b__law_take : Binds g.K (fd 66) P__law_take []
  m__law_take : mg "_law_take" = some (.ref (g.F 66))
  F__law_cells : Fun g.K "_law_cells" "_law_cells" s__law_cells (g.F 67) (fd 67)
  b__law_cells : Binds g.K (fd 67) P__law_cells []
  m__law_cells : mg "_law_cells" = some (.ref (g.F 67))
  F__law_lists : Fun g.K "_law_lists" "_law_lists" s__law_lists (g.F 68) (fd 68)
  b__law_lists : Binds g.K (fd 68) P__law_lists []
  m__law_lists : mg "_law_lists" = some (.ref (g.F 68))
  F__law_same : Fun g.K "_law_same" "_law_same" s__law_same (g.F 69) (fd 69)
  b__law_same : Binds g.K (fd 69) P__law_same []
  m__law_same : mg "_law_same" = some (.ref (g.F 69))
  F__law_nook : Fun g.K "_law_nook" "_law_nook" s__law_nook (g.F 70) (fd 70)
  b__law_nook : Binds g.K (fd 70) P__law_nook []
  m__law_nook : mg "_law_nook" = some (.ref (g.F 70))
  F__law_room_asked : Fun g.K "_law_room_asked" "_law_room_asked" s__law_room_asked (g.F 71) (fd 71)
  b__law_room_asked : Binds g.K (fd 71) P__law_room_asked []
  m__law_room_asked : mg "_law_room_asked" = some (.ref (g.F 71))
  F__law_part_asked : Fun g.K "_law_part_asked" "_law_part_asked" s__law_part_asked (g.F 72) (fd 72)
  b__law_part_asked : Binds g.K (fd 72) P__law_part_asked []
  m__law_part_asked : mg "_law_part_asked" = some (.ref (g.F 72))
  F__law_kind_asked : Fun g.K "_law_kind_asked" "_law_kind_asked" s__law_kind_asked (g.F 73) (fd 73)
  b__law_kind_asked : Binds g.K (fd 73) P__law_kind_asked []
  m__law_kind_asked : mg "_law_kind_asked" = some (.ref (g.F 73))
  F__law_laid_asked : Fun g.K "_law_laid_asked" "_law_laid_asked" s__law_laid_asked (g.F 74) (fd 74)
  b__law_laid_asked : Binds g.K (fd 74) P__law_laid_asked []
  m__law_laid_asked : mg "_law_laid_asked" = some (.ref (g.F 74))
  F__law_box_asked : Fun g.K "_law_box_asked" "_law_box_asked" s__law_box_asked (g.F 75) (fd 75)
  b__law_box_asked : Binds g.K (fd 75) P__law_box_asked []
  m__law_box_asked : mg "_law_box_asked" = some (.ref (g.F 75))
  F__law_heard : Fun g.K "_law_heard" "_law_heard" s__law_heard (g.F 76) (fd 76)
  b__law_heard : Binds g.K (fd 76) P__law_heard []
  m__law_heard : mg "_law_heard" = some (.ref (g.F 76))
  F__law_last_heard : Fun g.K "_law_last_heard" "_law_last_heard" s__law_last_heard (g.F 77) (fd 77)
  b__law_last_heard : Binds g.K (fd 77) P__law_last_heard []
  m__law_last_heard : mg "_law_last_heard" = some (.ref (g.F 77))
  F__law_out_heard : Fun g.K "_law_out_heard" "_law_out_heard" s__law_out_heard (g.F 78) (fd 78)
  b__law_out_heard : Binds g.K (fd 78) P__law_out_heard []
  m__law_out_heard : mg "_law_out_heard" = some (.ref (g.F 78))
  F__law_none_right : Fun g.K "_law_none_right" "_law_none_right" s__law_none_right (g.F 79) (fd 79)
  b__law_none_right : Binds g.K (fd 79) P__law_none_right []
  m__law_none_right : mg "_law_none_right" = some (.ref (g.F 79))
  F__law_refused_right : Fun g.K "_law_refused_right" "_law_refused_right" s__law_refused_right (g.F 80) (fd 80)
  b__law_refused_right : Binds g.K (fd 80) P__law_refused_right []
  m__law_refused_right : mg "_law_refused_right" = some (.ref (g.F 80))
  F__law_soft_right : Fun g.K "_law_soft_right" "_law_soft_right" s__law_soft_right (g.F 81) (fd 81)
  b__law_soft_right : Binds g.K (fd 81) P__law_soft_right []
  m__law_soft_right : mg "_law_soft_right" = some (.ref (g.F 81))
  F_law : Fun g.K "law" "law" s_law (g.F 82) (fd 82)
  b_law : Binds g.K (fd 82) P_law []
  m_law : mg "law" = some (.ref (g.F 82))
  E_NoPoint : ErrC g.K (g.C 0) "LookupError.__new__" [.type "LookupError", .type "Exception", .type "BaseException", .type "object"]
  n_NoPoint : mg "NoPoint" = some (.ref (g.C 0))
  i_NoPoint : PySem.W.findIn g.K (.ref (g.C 0)) "__init__" = some (some (.ref (iA 0)))
  j_NoPoint : PySem.W.typeIn g.K (.ref (iA 0)) = some (.type "function")
  I_NoPoint : Fun g.K "__init__" "NoPoint.__init__" si_NoPoint (iA 0) (iF 0)
  B_NoPoint : Binds g.K (iF 0) ["self", "point"] []
  S_NoPoint : SuC g.K (g.C 0)
  h_NoPoint : PySem.W.findIn g.K (.ref (g.C 0)) "point" = some none
  f_NoPoint : g.fld 0 = (["point"] : List Str)
  x_0_0 : PySem.W.exmOne g.K (.ref (g.C 0)) (.ref (g.C 0)) = some true
  x_0_1 : PySem.W.exmOne g.K (.ref (g.C 0)) (.ref (g.C 1)) = some false
  x_0_2 : PySem.W.exmOne g.K (.ref (g.C 0)) (.ref (g.C 2)) = some false
  x_0_3 : PySem.W.exmOne g.K (.ref (g.C 0)) (.ref (g.C 3)) = some false
  E_NoSquare : ErrC g.K (g.C 1) "LookupError.__new__" [.type "LookupError", .type "Exception", .type "BaseException", .type "object"]
  n_NoSquare : mg "NoSquare" = some (.ref (g.C 1))
  i_NoSquare : PySem.W.findIn g.K (.ref (g.C 1)) "__init__" = some (some (.ref (iA 1)))
  j_NoSquare : PySem.W.typeIn g.K (.ref (iA 1)) = some (.type "function")
  I_NoSquare : Fun g.K "__init__" "NoSquare.__init__" si_NoSquare (iA 1) (iF 1)
  B_NoSquare : Binds g.K (iF 1) ["self", "square"] []
  S_NoSquare : SuC g.K (g.C 1)
  h_NoSquare : PySem.W.findIn g.K (.ref (g.C 1)) "square" = some none
  f_NoSquare : g.fld 1 = (["square"] : List Str)
  x_1_0 : PySem.W.exmOne g.K (.ref (g.C 1)) (.ref (g.C 0)) = some false
  x_1_1 : PySem.W.exmOne g.K (.ref (g.C 1)) (.ref (g.C 1)) = some true
  x_1_2 : PySem.W.exmOne g.K (.ref (g.C 1)) (.ref (g.C 2)) = some false
  x_1_3 : PySem.W.exmOne g.K (.ref (g.C 1)) (.ref (g.C 3)) = some false
  E_CanNot : ErrC g.K (g.C 2) "ValueError.__new__" [.type "ValueError", .type "Exception", .type "BaseException", .type "object"]
  n_CanNot : mg "CanNot" = some (.ref (g.C 2))
  i_CanNot : PySem.W.findIn g.K (.ref (g.C 2)) "__init__" = some (some (.ref (iA 2)))
  j_CanNot : PySem.W.typeIn g.K (.ref (iA 2)) = some (.type "function")
  I_CanNot : Fun g.K "__init__" "CanNot.__init__" si_CanNot (iA 2) (iF 2)
  B_CanNot : Binds g.K (iF 2) ["self"] []
  S_CanNot : SuC g.K (g.C 2)
  f_CanNot : g.fld 2 = ([] : List Str)
  x_2_0 : PySem.W.exmOne g.K (.ref (g.C 2)) (.ref (g.C 0)) = some false
  x_2_1 : PySem.W.exmOne g.K (.ref (g.C 2)) (.ref (g.C 1)) = some false
  x_2_2 : PySem.W.exmOne g.K (.ref (g.C 2)) (.ref (g.C 2)) = some true
  x_2_3 : PySem.W.exmOne g.K (.ref (g.C 2)) (.ref (g.C 3)) = some false
  E_Unfit : ErrC g.K (g.C 3) "ValueError.__new__" [.type "ValueError", .type "Exception", .type "BaseException", .type "object"]
  n_Unfit : mg "Unfit" = some (.ref (g.C 3))
  i_Unfit : PySem.W.findIn g.K (.ref (g.C 3)) "__init__" = some (some (.ref (iA 3)))
  j_Unfit : PySem.W.typeIn g.K (.ref (iA 3)) = some (.type "function")
  I_Unfit : Fun g.K "__init__" "Unfit.__init__" si_Unfit (iA 3) (iF 3)
  B_Unfit : Binds g.K (iF 3) ["self"] []
  S_Unfit : SuC g.K (g.C 3)
  f_Unfit : g.fld 3 = ([] : List Str)
  x_3_0 : PySem.W.exmOne g.K (.ref (g.C 3)) (.ref (g.C 0)) = some false
  x_3_1 : PySem.W.exmOne g.K (.ref (g.C 3)) (.ref (g.C 1)) = some false
  x_3_2 : PySem.W.exmOne g.K (.ref (g.C 3)) (.ref (g.C 2)) = some false
  x_3_3 : PySem.W.exmOne g.K (.ref (g.C 3)) (.ref (g.C 3)) = some true
  v_LookupError : PySem.W.findCls g.K (.type "LookupError") (.type "type") "__init__" = some (.val (.builtin "LookupError.__init__"))
  v_ValueError : PySem.W.findCls g.K (.type "ValueError") (.type "type") "__init__" = some (.val (.builtin "ValueError.__init__"))
  q_CanNot_ValueError : PySem.W.kitOne g.K (.ref (g.C 2)) (.type "ValueError") = some true
  q_NoPoint_LookupError : PySem.W.kitOne g.K (.ref (g.C 0)) (.type "LookupError") = some true
  q_NoSquare_LookupError : PySem.W.kitOne g.K (.ref (g.C 1)) (.type "LookupError") = some true
  q_Unfit_ValueError : PySem.W.kitOne g.K (.ref (g.C 3)) (.type "ValueError") = some true
  z_LookupError : mg "LookupError" = none
  z_ValueError : mg "ValueError" = none
  z_abs : mg "abs" = none
  z_all : mg "all" = none
  z_any : mg "any" = none
  z_bool : mg "bool" = none
  z_dict : mg "dict" = none
  z_enumerate : mg "enumerate" = none
  z_int : mg "int" = none
  z_isinstance : mg "isinstance" = none
  z_len : mg "len" = none
  z_list : mg "list" = none
  z_max : mg "max" = none
  z_min : mg "min" = none
  z_range : mg "range" = none
  z_set : mg "set" = none
  z_sorted : mg "sorted" = none
  z_str : mg "str" = none
  z_tuple : mg "tuple" = none
  z_zip : mg "zip" = none
  c_TOWARD : ∃ a, mg "TOWARD" = some (.ref a) ∧ ∀ A H, Rp g A H (.ref a) (.kt [(.kt [(.int 0), (.int 0)]), (.kt [(.int 1), (.int 0)]), (.kt [(.int 0), (.int 1)]), (.kt [(.int (-1)), (.int 0)]), (.kt [(.int 0), (.int (-1))])])
  c_AROUND : ∃ a, mg "AROUND" = some (.ref a) ∧ ∀ A H, Rp g A H (.ref a) (.kt [(.kt [(.int (-1)), (.int (-1))]), (.kt [(.int (-1)), (.int 0)]), (.kt [(.int (-1)), (.int 1)]), (.kt [(.int 0), (.int (-1))]), (.kt [(.int 0), (.int 1)]), (.kt [(.int 1), (.int (-1))]), (.kt [(.int 1), (.int 0)]), (.kt [(.int 1), (.int 1)])])
  c_EAST : ∃ t, mg "EAST" = some (.int 1 t)
  c_WEST : ∃ t, mg "WEST" = some (.int 3 t)
  c_SOUTH : ∃ t, mg "SOUTH" = some (.int 2 t)
  c_NORTH : ∃ t, mg "NORTH" = some (.int 4 t)
  c_SIDES : ∃ a, mg "SIDES" = some (.ref a) ∧ ∀ A H, Rp g A H (.ref a) (.kt [(.kt [(.int (-1)), (.int 0)]), (.kt [(.int 0), (.int (-1))]), (.kt [(.int 0), (.int 1)]), (.kt [(.int 1), (.int 0)])])
section
variable {P : Program} {w : World} {mg : Str → Option Value} {base : Heap} {g : G} {fd : Nat → FuncData} {iA : Nat → Addr} {iF : Nat → FuncData}
theorem ok_init_NoPoint (T : Tx mg g fd iA iF) : FnOk P w g.K mg base (L2.CX P w) 1 (iA 0) (iF 0) ["self", "point"] (spIni1 g.K "LookupError.__new__" [.type "LookupError", .type "Exception", .type "BaseException", .type "object"] "point") :=
  okIni1 T.I_NoPoint sc_i_NoPoint fun cdv A outer s H E hr => pss_cons (ps_expr (pe_errI base_LE (by rfl) T.z_LookupError (by decide +kernel) T.v_LookupError (by decide +kernel) (by decide +kernel) (pa_cons (pv 0) (pa_cons (pv 1) pa_nil)))) (pss_one (ps_errS base_LE (pv 0) (pv 1)))
theorem ok_init_NoSquare (T : Tx mg g fd iA iF) : FnOk P w g.K mg base (L2.CX P w) 1 (iA 1) (iF 1) ["self", "square"] (spIni1 g.K "LookupError.__new__" [.type "LookupError", .type "Exception", .type "BaseException", .type "object"] "square") :=
  okIni1 T.I_NoSquare sc_i_NoSquare fun cdv A outer s H E hr => pss_cons (ps_expr (pe_errI base_LE (by rfl) T.z_LookupError (by decide +kernel) T.v_LookupError (by decide +kernel) (by decide +kernel) (pa_cons (pv 0) (pa_cons (pv 1) pa_nil)))) (pss_one (ps_errS base_LE (pv 0) (pv 1)))
theorem ok_init_CanNot (T : Tx mg g fd iA iF) : FnOk P w g.K mg base (L2.CX P w) 1 (iA 2) (iF 2) ["self"] (spIni0 g.K "ValueError.__new__" [.type "ValueError", .type "Exception", .type "BaseException", .type "object"]) :=
  okIni0 T.I_CanNot sc_i_CanNot fun cdv A outer s H E hr => pss_one (ps_expr (pe_errI base_VE (by rfl) T.z_ValueError (by decide +kernel) T.v_ValueError (by decide +kernel) (by decide +kernel) (pa_cons (pv 0) pa_nil)))
theorem ok_init_Unfit (T : Tx mg g fd iA iF) : FnOk P w g.K mg base (L2.CX P w) 1 (iA 3) (iF 3) ["self"] (spIni0 g.K "ValueError.__new__" [.type "ValueError", .type "Exception", .type "BaseException", .type "object"]) :=
  okIni0 T.I_Unfit sc_i_Unfit fun cdv A outer s H E hr => pss_one (ps_expr (pe_errI base_VE (by rfl) T.z_ValueError (by decide +kernel) T.v_ValueError (by decide +kernel) (by decide +kernel) (pa_cons (pv 0) pa_nil)))
theorem exm_all (T : Tx mg g fd iA iF) : ∀ c, c < 4 → ∀ d, d < 4 → PySem.W.exmOne g.K (.ref (g.C c)) (.ref (g.C d)) = some (decide (c = d))
  | 0, _, 0, _ => T.x_0_0
  | 0, _, 1, _ => T.x_0_1
  | 0, _, 2, _ => T.x_0_2
  | 0, _, 3, _ => T.x_0_3
  | 1, _, 0, _ => T.x_1_0
  | 1, _, 1, _ => T.x_1_1
  | 1, _, 2, _ => T.x_1_2
  | 1, _, 3, _ => T.x_1_3
  | 2, _, 0, _ => T.x_2_0
  | 2, _, 1, _ => T.x_2_1
  | 2, _, 2, _ => T.x_2_2
  | 2, _, 3, _ => T.x_2_3
  | 3, _, 0, _ => T.x_3_0
  | 3, _, 1, _ => T.x_3_1
  | 3, _, 2, _ => T.x_3_2
  | 3, _, 3, _ => T.x_3_3
  | n + 4, h, _, _ => absurd h (by omega)
  | 0, _, n + 4, h => absurd h (by omega)
  | 1, _, n + 4, h => absurd h (by omega)
  | 2, _, n + 4, h => absurd h (by omega)
  | 3, _, n + 4, h => absurd h (by omega)
def m_pushed : MS := (mSeq (mTo (tgTL [2, 3]) (mVarF 0))
    (mRet (mLc (miSeq (mVarF 1)) (tgTup [4, 5]) mYes (mTup (mCons (mBin addD (mVarF 2) (mVarF 4)) (mCons (mBin addD (mVarF 3) (mVarF 5)) mNil))) [4, 5])))
theorem ok_pushed (T : Tx mg g fd iA iF) : FnOk P w g.K mg base (L2.CX P w) 1 (g.F 0) (fd 0) P_pushed (spF g 2 6 m_pushed) :=
  okF T.F_pushed sc_pushed rfl rfl (by decide) fun cdv A outer s H E hr =>
    (pss_mCons (ps_mTo (pe_mVarF (pv 0)) (pg_tl (by rfl) (pgs_cons (pg_name (i := 2) sc_pushed.nd rfl (by first | exact Or.inl rfl | exact Or.inr rfl)) (pgs_cons (pg_name (i := 3) sc_pushed.nd rfl (by first | exact Or.inl rfl | exact Or.inr rfl)) pgs_nil))) (gok_tl [2, 3]))
    (pss_mOne (ps_mRet (pe_mLc (own := [("i", 4), ("j", 5)]) rfl sc_pushed.nd (pi_mSeq rfl (pe_mVarF (pv 1))) (blkOk_by (own := [("i", 4), ("j", 5)]) (N := N_pushed) (sc := defScope s_pushed) (by decide +kernel)) (gok_tup [4, 5]) (by decide) (fun _ _ _ _ _ => (pg_tup (by rfl) (pgs_cons (pg_name (i := 4) sc_pushed.nd rfl (by first | exact Or.inl rfl | exact Or.inr rfl)) (pgs_cons (pg_name (i := 5) sc_pushed.nd rfl (by first | exact Or.inl rfl | exact Or.inr rfl)) pgs_nil)))) (fun _ _ _ _ _ => pts_mNil) (fun _ _ _ _ _ => (pe_mTup (pa_mCons (pe_mBin op_addU rop_add (pe_mVarF (pv 2)) (pe_mVarF (pv 4))) (pa_mCons (pe_mBin op_addU rop_add (pe_mVarF (pv 3)) (pe_mVarF (pv 5))) pa_mNil))))))))
def m_within : MS := (mRet (mFun tupleD (mCons (mLc (miSeq (mVarF 1)) (tgName 2) (mB (mInB false (mVarF 2) 0)) (mVarF 2) [2]) mNil)))
theorem ok_within (T : Tx mg g fd iA iF) : FnOk P w g.K mg base (L2.CX P w) 1 (g.F 1) (fd 1) P_within (spF g 2 3 m_within) :=
  okF T.F_within sc_within rfl rfl (by decide) fun cdv A outer s H E hr =>
    (pss_mOne (ps_mRet (pe_mCallT call_tuple_of rop_tuple (by rfl) T.z_tuple (by decide +kernel) (pa_mCons (pe_mLc (own := [("pair", 2)]) rfl sc_within.nd (pi_mSeq rfl (pe_mVarF (pv 1))) (blkOk_by (own := [("pair", 2)]) (N := N_within) (sc := defScope s_within) (by decide +kernel)) (gok_name 2) (by decide) (fun _ _ _ _ _ => (pg_name (i := 2) sc_within.nd rfl (by first | exact Or.inl rfl | exact Or.inr rfl))) (fun _ _ _ _ _ => (pts_one (pt_mInB (OpR.or (op_inP hr.units) (op_inDc (hu_of hr))) (pe_mVarF (pv 2)) (pv 0) (by with_unfolding_all rfl)))) (fun _ _ _ _ _ => (pe_mVarF (pv 2)))) pa_mNil))))
def m_toward : MS := (mRet (mTup (mCons (mBin addD (mBin ixD (mVarF 0) (mC (.int 0))) (mBin ixD (mBin ixD (mC (.kt [(.kt [(.int 0), (.int 0)]), (.kt [(.int 1), (.int 0)]), (.kt [(.int 0), (.int 1)]), (.kt [(.int (-1)), (.int 0)]), (.kt [(.int 0), (.int (-1))])])) (mVarF 1)) (mC (.int 0)))) (mCons (mBin addD (mBin ixD (mVarF 0) (mC (.int 1))) (mBin ixD (mBin ixD (mC (.kt [(.kt [(.int 0), (.int 0)]), (.kt [(.int 1), (.int 0)]), (.kt [(.int 0), (.int 1)]), (.kt [(.int (-1)), (.int 0)]), (.kt [(.int 0), (.int (-1))])])) (mVarF 1)) (mC (.int 1)))) mNil))))
theorem ok_toward (T : Tx mg g fd iA iF) : FnOk P w g.K mg base (L2.CX P w) 1 (g.F 2) (fd 2) P_toward (spF g 2 2 m_toward) :=
  okF T.F_toward sc_toward rfl rfl (by decide) fun cdv A outer s H E hr =>
    (pss_mOne (ps_mRet (pe_mTup (pa_mCons (pe_mBin op_addU rop_add (pe_mIx rfl (hu_of hr) (pe_mVarF (pv 0)) pe_mInt (fun _ _ => rfl) (fun _ _ => rfl)) (pe_mIx rfl (hu_of hr) (pe_mIx rfl (hu_of hr) (pe_mGt T.c_TOWARD (by rfl)) (pe_mVarF (pv 1)) (fun _ _ => rfl) (fun _ _ => rfl)) pe_mInt (fun _ _ => rfl) (fun _ _ => rfl))) (pa_mCons (pe_mBin op_addU rop_add (pe_mIx rfl (hu_of hr) (pe_mVarF (pv 0)) pe_mInt (fun _ _ => rfl) (fun _ _ => rfl)) (pe_mIx rfl (hu_of hr) (pe_mIx rfl (hu_of hr) (pe_mGt T.c_TOWARD (by rfl)) (pe_mVarF (pv 1)) (fun _ _ => rfl) (fun _ _ => rfl)) pe_mInt (fun _ _ => rfl) (fun _ _ => rfl))) pa_mNil)))))
def m_table_of : MS := (mRet (mDc dkT (miSeq (mVarF 0)) (tgName 1) mYes (mVarF 1) (mC (.bl true)) [1]))
theorem ok_table_of (T : Tx mg g fd iA iF) : FnOk P w g.K mg base (L2.CX P w) 1 (g.F 3) (fd 3) P_table_of (spF g 1 2 m_table_of) :=
  okF T.F_table_of sc_table_of rfl rfl (by decide) fun cdv A outer s H E hr =>
    (pss_mOne (ps_mRet (pe_mDc (DK := dkT) (own := [("square", 1)]) hr.units0 rfl sc_table_of.nd (pi_mSeq rfl (pe_mVarF (pv 0))) (blkOk_by (own := [("square", 1)]) (N := N_table_of) (sc := defScope s_table_of) (by decide +kernel)) (gok_name 1) (by decide) (fun _ _ _ _ _ => (pg_name (i := 1) sc_table_of.nd rfl (by first | exact Or.inl rfl | exact Or.inr rfl))) (fun _ _ _ _ _ => pts_mNil) (fun _ _ _ _ _ => (pe_mVarF (pv 1))) (fun _ _ _ _ _ => pe_mBl))))
def m_points_of : MS := (mSeq (mAsg 1 (mCall m_table_of 2 [] (mCons (mVarF 0) mNil)))
    (mRet (mFun tupleD (mCons (mLc (miSeq (mVarF 0)) (tgTup [2, 3]) (mAndT (mB (mInB false (mTup (mCons (mBin subD (mVarF 2) (mC (.int 1))) (mCons (mVarF 3) mNil))) 1)) (mAndT (mB (mInB false (mTup (mCons (mVarF 2) (mCons (mBin subD (mVarF 3) (mC (.int 1))) mNil))) 1)) (mB (mInB false (mTup (mCons (mBin subD (mVarF 2) (mC (.int 1))) (mCons (mBin subD (mVarF 3) (mC (.int 1))) mNil))) 1)))) (mTup (mCons (mVarF 2) (mCons (mVarF 3) mNil))) [2, 3]) mNil))))
theorem ok_points_of (T : Tx mg g fd iA iF) : FnOk P w g.K mg base (L2.CX P w) 2 (g.F 7) (fd 7) P_points_of (spF g 1 4 m_points_of) :=
  okF T.F_points_of sc_points_of rfl rfl (by decide) fun cdv A outer s H E hr =>
    have tk := takes_of (E := E) rfl rfl rfl rfl
    (pss_mCons (ps_mAsg (i := 1) sc_points_of.nd rfl (by first | exact Or.inl rfl | exact Or.inr rfl) (pe_mCall (ok_table_of T) (hr.mono (by decide)) (by rfl) T.m_table_of T.F_table_of.kp T.b_table_of .nil (passT tk) (dfl := []) (fun _ _ => RpA.nil) hE_of (pa_mCons (pe_mVarF (pv 0)) pa_mNil) (len_cons len_nil) rfl))
    (pss_mOne (ps_mRet (pe_mCallT call_tuple_of rop_tuple (by rfl) T.z_tuple (by decide +kernel) (pa_mCons (pe_mLc (own := [("x", 2), ("y", 3)]) rfl sc_points_of.nd (pi_mSeq rfl (pe_mVarF (pv 0))) (blkOk_by (own := [("x", 2), ("y", 3)]) (N := N_points_of) (sc := defScope s_points_of) (by decide +kernel)) (gok_tup [2, 3]) (by decide) (fun _ _ _ _ _ => (pg_tup (by rfl) (pgs_cons (pg_name (i := 2) sc_points_of.nd rfl (by first | exact Or.inl rfl | exact Or.inr rfl)) (pgs_cons (pg_name (i := 3) sc_points_of.nd rfl (by first | exact Or.inl rfl | exact Or.inr rfl)) pgs_nil)))) (fun _ _ _ _ _ => (pts_one (PW.pt (pw_mAnd (pt_mInB (OpR.or (op_inP hr.units) (op_inDc (hu_of hr))) (pe_mTup (pa_mCons (pe_mBin op_sub rop_sub (pe_mVarF (pv 2)) pe_mInt) (pa_mCons (pe_mVarF (pv 3)) pa_mNil))) (pv 1) (by with_unfolding_all rfl)) (pw_mAnd (pt_mInB (OpR.or (op_inP hr.units) (op_inDc (hu_of hr))) (pe_mTup (pa_mCons (pe_mVarF (pv 2)) (pa_mCons (pe_mBin op_sub rop_sub (pe_mVarF (pv 3)) pe_mInt) pa_mNil))) (pv 1) (by with_unfolding_all rfl)) (pw_and1 (pt_mInB (OpR.or (op_inP hr.units) (op_inDc (hu_of hr))) (pe_mTup (pa_mCons (pe_mBin op_sub rop_sub (pe_mVarF (pv 2)) pe_mInt) (pa_mCons (pe_mBin op_sub rop_sub (pe_mVarF (pv 3)) pe_mInt) pa_mNil))) (pv 1) (by with_unfolding_all rfl)))))))) (fun _ _ _ _ _ => (pe_mTup (pa_mCons (pe_mVarF (pv 2)) (pa_mCons (pe_mVarF (pv 3)) pa_mNil))))) pa_mNil)))))
def m_needed : MS := (mSeq (mIf (mB (mBin (isND false) (mVarF 0) (mC .non)))
    (mRaise0 3)
    mSkip)
    (mRet (mVarF 0)))
theorem ok_needed (T : Tx mg g fd iA iF) : FnOk P w g.K mg base (L2.CX P w) 3 (g.F 19) (fd 19) P_needed (spF g 1 1 m_needed) :=
  okF T.F_needed sc_needed rfl rfl (by decide) fun cdv A outer s H E hr =>
    have tk := takes_of (E := E) rfl rfl rfl rfl
    (pss_mCons (ps_mIf (pt_mCmp op_isN rop_isN (pe_mVarF (pv 0)) pe_mNon (nomark _))
    (pss_mOne (ps_mRaise0 (c := 3) rfl rfl tk base_VE T.E_Unfit T.i_Unfit T.j_Unfit (ok_init_Unfit T) (hr.mono (by decide)) T.B_Unfit (by rfl) T.n_Unfit T.f_Unfit))
    pss_mNil)
    (pss_mOne (ps_mRet (pe_mVarF (pv 0)))))
def m_is_number : MS := (mRet (mAnd (mIsa .int (mVarF 0)) (mNot (mIsa .bool (mVarF 0)))))
theorem ok_is_number (T : Tx mg g fd iA iF) : FnOk P w g.K mg base (L2.CX P w) 1 (g.F 18) (fd 18) P_is_number (spF g 1 1 m_is_number) :=
  okF T.F_is_number sc_is_number rfl rfl (by decide) fun cdv A outer s H E hr =>
    (pss_mOne (ps_mRet (pe_mAnd rfl (pe_mIsa .int rfl (by rfl) T.z_isinstance (pe_mVarF (pv 0)) (tyP (by rfl) T.z_int (by decide +kernel))) (pe_one (pe_mNot rfl (pe_mIsa .bool rfl (by rfl) T.z_isinstance (pe_mVarF (pv 0)) (tyP (by rfl) T.z_bool (by decide +kernel))))))))
def m_plain_pair : MS := (mSeq (mIf (mOrT (mNotT (mTru (mIsa2 .list .tuple (mVarF 0)))) (mB (mBin neD (mFun lenD (mCons (mVarF 0) mNil)) (mC (.int 2)))))
    (mRet (mC .non))
    mSkip)
    (mSeq (mTo (tgTL [1, 2]) (mVarF 0))
    (mRet (mIfE (mAndT (mTru (mCall m_is_number 1 [] (mCons (mVarF 1) mNil))) (mTru (mCall m_is_number 1 [] (mCons (mVarF 2) mNil)))) (mTup (mCons (mVarF 1) (mCons (mVarF 2) mNil))) (mC .non)))))
theorem ok_plain_pair (T : Tx mg g fd iA iF) : FnOk P w g.K mg base (L2.CX P w) 2 (g.F 23) (fd 23) P_plain_pair (spF g 1 3 m_plain_pair) :=
  okF T.F_plain_pair sc_plain_pair rfl rfl (by decide) fun cdv A outer s H E hr =>
    have tk := takes_of (E := E) rfl rfl rfl rfl
    (pss_mCons (ps_mIf (PW.pt (pw_mOr (pt_mNot (pt_mTru rfl (pe_mIsa2 .list .tuple rfl (by rfl) T.z_isinstance (pe_mVarF (pv 0)) (tyP (by rfl) T.z_list (by decide +kernel)) (tyP (by rfl) T.z_tuple (by decide +kernel))) (by intro _; rfl))) (pw_or1 (pt_mCmp (op_neP hr.units) rop_ne (pe_mCallB call_len rop_len (by rfl) T.z_len (by decide +kernel) (pa_mCons (pe_mVarF (pv 0)) pa_mNil)) pe_mInt (nomark _)))))
    (pss_mOne (ps_mRet pe_mNon))
    pss_mNil)
    (pss_mCons (ps_mTo (pe_mVarF (pv 0)) (pg_tl (by rfl) (pgs_cons (pg_name (i := 1) sc_plain_pair.nd rfl (by first | exact Or.inl rfl | exact Or.inr rfl)) (pgs_cons (pg_name (i := 2) sc_plain_pair.nd rfl (by first | exact Or.inl rfl | exact Or.inr rfl)) pgs_nil))) (gok_tl [1, 2]))
    (pss_mOne (ps_mRet (pe_mIfE (PW.pt (pw_mAnd (pt_mTru rfl (pe_mCall (ok_is_number T) (hr.mono (by decide)) (by rfl) T.m_is_number T.F_is_number.kp T.b_is_number .nil (passT tk) (dfl := []) (fun _ _ => RpA.nil) hE_of (pa_mCons (pe_mVarF (pv 1)) pa_mNil) (len_cons len_nil) rfl) (by intro _; rfl)) (pw_and1 (pt_mTru rfl (pe_mCall (ok_is_number T) (hr.mono (by decide)) (by rfl) T.m_is_number T.F_is_number.kp T.b_is_number .nil (passT tk) (dfl := []) (fun _ _ => RpA.nil) hE_of (pa_mCons (pe_mVarF (pv 2)) pa_mNil) (len_cons len_nil) rfl) (by intro _; rfl))))) (pe_mTup (pa_mCons (pe_mVarF (pv 1)) (pa_mCons (pe_mVarF (pv 2)) pa_mNil))) pe_mNon)))))
def m_plain_square : MS := (mSeq (mAsg 1 (mCall m_plain_pair 3 [] (mCons (mVarF 0) mNil)))
    (mSeq (mIf (mOrT (mB (mBin (isND false) (mVarF 1) (mC .non))) (mOrT (mB (mBin ltD (mBin ixD (mVarF 1) (mC (.int 0))) (mC (.int 0)))) (mB (mBin ltD (mBin ixD (mVarF 1) (mC (.int 1))) (mC (.int 0))))))
    (mRet (mC .non))
    mSkip)
    (mRet (mVarF 1))))
theorem ok_plain_square (T : Tx mg g fd iA iF) : FnOk P w g.K mg base (L2.CX P w) 3 (g.F 24) (fd 24) P_plain_square (spF g 1 2 m_plain_square) :=
  okF T.F_plain_square sc_plain_square rfl rfl (by decide) fun cdv A outer s H E hr =>
    have tk := takes_of (E := E) rfl rfl rfl rfl
    (pss_mCons (ps_mAsg (i := 1) sc_plain_square.nd rfl (by first | exact Or.inl rfl | exact Or.inr rfl) (pe_mCall (ok_plain_pair T) (hr.mono (by decide)) (by rfl) T.m_plain_pair T.F_plain_pair.kp T.b_plain_pair .nil (passT tk) (dfl := []) (fun _ _ => RpA.nil) hE_of (pa_mCons (pe_mVarF (pv 0)) pa_mNil) (len_cons len_nil) rfl))
    (pss_mCons (ps_mIf (PW.pt (pw_mOr (pt_mCmp op_isN rop_isN (pe_mVarF (pv 1)) pe_mNon (nomark _)) (pw_mOr (pt_mCmp (OpR.or (op_lt) (op_ltP hr.units)) ROp.ord (pe_mIx rfl (hu_of hr) (pe_mVarF (pv 1)) pe_mInt (fun _ _ => rfl) (fun _ _ => rfl)) pe_mInt (nomark _)) (pw_or1 (pt_mCmp (OpR.or (op_lt) (op_ltP hr.units)) ROp.ord (pe_mIx rfl (hu_of hr) (pe_mVarF (pv 1)) pe_mInt (fun _ _ => rfl) (fun _ _ => rfl)) pe_mInt (nomark _))))))
    (pss_mOne (ps_mRet pe_mNon))
    pss_mNil)
    (pss_mOne (ps_mRet (pe_mVarF (pv 1))))))
def m_plain_number : MS := (mSeq (mIf (mOrT (mNotT (mTru (mCall m_is_number 1 [] (mCons (mVarF 0) mNil)))) (mOrT (mB (mBin ltD (mVarF 0) (mVarF 1))) (mAndT (mB (mBin (isND true) (mVarF 2) (mC .non))) (mB (mBin gtD (mVarF 0) (mVarF 2))))))
    (mRet (mC .non))
    mSkip)
    (mRet (mVarF 0)))
theorem ok_plain_number (T : Tx mg g fd iA iF) : FnOk P w g.K mg base (L2.CX P w) 2 (g.F 21) (fd 21) P_plain_number (spF g 3 3 m_plain_number) :=
  okFD T.F_plain_number sc_plain_number rfl rfl (by decide) fun cdv A outer s H E hr =>
    have tk := takes_of (E := E) rfl rfl rfl rfl
    (pss_mCons (ps_mIf (PW.pt (pw_mOr (pt_mNot (pt_mTru rfl (pe_mCall (ok_is_number T) (hr.mono (by decide)) (by rfl) T.m_is_number T.F_is_number.kp T.b_is_number .nil (passT tk) (dfl := []) (fun _ _ => RpA.nil) hE_of (pa_mCons (pe_mVarF (pv 0)) pa_mNil) (len_cons len_nil) rfl) (by intro _; rfl))) (pw_mOr (pt_mCmp (OpR.or (op_lt) (op_ltP hr.units)) ROp.ord (pe_mVarF (pv 0)) (pe_mVarF (pv 1)) (nomark _)) (pw_or1 (PW.pt (pw_mAnd (pt_mCmp op_notN rop_notN (pe_mVarF (pv 2)) pe_mNon (nomark _)) (pw_and1 (pt_mCmp (OpR.or (op_gt) (op_gtP hr.units)) ROp.ord (pe_mVarF (pv 0)) (pe_mVarF (pv 2)) (nomark _)))))))))
    (pss_mOne (ps_mRet pe_mNon))
    pss_mNil)
    (pss_mOne (ps_mRet (pe_mVarF (pv 0)))))
def m_plain_kind : MS := (mRet (mCall m_plain_number 3 [] (mCons (mVarF 0) (mCons (mC (.int 0)) (mCons (mC (.int 4)) mNil)))))
theorem ok_plain_kind (T : Tx mg g fd iA iF) : FnOk P w g.K mg base (L2.CX P w) 3 (g.F 22) (fd 22) P_plain_kind (spF g 1 1 m_plain_kind) :=
  okF T.F_plain_kind sc_plain_kind rfl rfl (by decide) fun cdv A outer s H E hr =>
    have tk := takes_of (E := E) rfl rfl rfl rfl
    (pss_mOne (ps_mRet (pe_mCallD (ok_plain_number T) (hr.mono (by decide)) (by rfl) T.m_plain_number T.F_plain_number.kp T.b_plain_number_1 (passT tk) (dfl := []) (fun _ _ => RpA.nil) hE_of (pa_mCons (pe_mVarF (pv 0)) (pa_mCons pe_mInt (pa_mCons pe_mInt pa_mNil))) (lenDf (len_cons (len_cons (len_cons len_nil))) rfl) rfl)))
def tab_plain_items : Nat → Option (MS × Nat)
  | 24 => some (m_plain_square, 2)
  | 23 => some (m_plain_pair, 3)
  | 22 => some (m_plain_kind, 1)
  | _ => none
theorem h_plain_items (T : Tx mg g fd iA iF) : ∀ j ms n, tab_plain_items j = some (ms, n) → ∃ fd ps, FnOk P w g.K mg base (L2.CX P w) 3 (g.F j) fd ps (spF g 1 n ms) ∧ PySem.W.keepIn g.K (.ref (g.F j)) = true ∧ Binds g.K fd ps [] ∧ ps.length = 1 := by
  intro j ms n h
  unfold tab_plain_items at h
  split at h
  · cases Option.some.inj h; exact ⟨_, _, (ok_plain_square T).mono (by decide), T.F_plain_square.kp, T.b_plain_square, rfl⟩
  · cases Option.some.inj h; exact ⟨_, _, (ok_plain_pair T).mono (by decide), T.F_plain_pair.kp, T.b_plain_pair, rfl⟩
  · cases Option.some.inj h; exact ⟨_, _, (ok_plain_kind T).mono (by decide), T.F_plain_kind.kp, T.b_plain_kind, rfl⟩
  · cases h
def m_plain_items : MS := (mSeq (mIf (mNotT (mTru (mIsa2 .list .tuple (mVarF 0))))
    (mRet (mC .non))
    mSkip)
    (mSeq (mAsg 2 (mLc (miSeq (mVarF 0)) (tgName 3) mYes (mCallV tab_plain_items 1 (mCons (mVarF 3) mNil)) [3]))
    (mRet (mIfE (mB (mInB false (mC .non) 2)) (mC .non) (mFun tupleD (mCons (mVarF 2) mNil))))))
theorem ok_plain_items (T : Tx mg g fd iA iF) : FnOk P w g.K mg base (L2.CX P w) 4 (g.F 25) (fd 25) P_plain_items (spF g 2 4 m_plain_items) :=
  okF T.F_plain_items sc_plain_items rfl rfl (by decide) fun cdv A outer s H E hr =>
    (pss_mCons (ps_mIf (pt_mNot (pt_mTru rfl (pe_mIsa2 .list .tuple rfl (by rfl) T.z_isinstance (pe_mVarF (pv 0)) (tyP (by rfl) T.z_list (by decide +kernel)) (tyP (by rfl) T.z_tuple (by decide +kernel))) (by intro _; rfl)))
    (pss_mOne (ps_mRet pe_mNon))
    pss_mNil)
    (pss_mCons (ps_mLc (own := [("item", 3)]) (i := 2) rfl sc_plain_items.nd rfl rfl (sw_true rfl rfl rfl (by decide +kernel)) (pi_mSeq rfl (pe_mVarF (pv 0))) (blkOk_by (own := [("item", 3)]) (N := N_plain_items) (sc := defScope s_plain_items) (by decide +kernel)) (gok_name 3) (by decide) (fun _ _ _ _ _ => (pg_name (i := 3) sc_plain_items.nd rfl (by first | exact Or.inl rfl | exact Or.inr rfl))) (fun _ _ _ _ _ => pts_mNil) (fun _ _ _ _ _ => (pe_mCallV (np := 1) (tab := tab_plain_items) (h_plain_items T) (hr.mono (by decide)) rfl (by first | exact Or.inl rfl | exact Or.inr (Or.inl rfl) | exact Or.inr (Or.inr rfl)) passF hE_no (pa_mCons (pe_mVarF (pv 3)) pa_mNil) (len_cons len_nil))))
    (pss_mOne (ps_mRet (pe_mIfE (pt_mInB (OpR.or (op_inP hr.units) (op_inDc (hu_of hr))) pe_mNon (pv 2) (by with_unfolding_all rfl)) pe_mNon (pe_mCallT call_tuple_of rop_tuple (by rfl) T.z_tuple (by decide +kernel) (pa_mCons (pe_mVarF (pv 2)) pa_mNil)))))))
def m_plain_set : MS := (mSeq (mAsg 2 (mCall m_plain_items 4 [] (mCons (mVarF 0) (mCons (mVarF 1) mNil))))
    (mSeq (mIf (mOrT (mB (mBin (isND false) (mVarF 2) (mC .non))) (mTru (mFun anyD (mCons (mLc (miFun rangeF (mCons (mBin subD (mFun lenD (mCons (mVarF 2) mNil)) (mC (.int 1))) mNil)) (tgName 3) mYes (mBin geD (mBin ixD (mVarF 2) (mVarF 3)) (mBin ixD (mVarF 2) (mBin addD (mVarF 3) (mC (.int 1))))) [3]) mNil))))
    (mRet (mC .non))
    mSkip)
    (mRet (mVarF 2))))
theorem ok_plain_set (T : Tx mg g fd iA iF) : FnOk P w g.K mg base (L2.CX P w) 5 (g.F 26) (fd 26) P_plain_set (spF g 2 4 m_plain_set) :=
  okF T.F_plain_set sc_plain_set rfl rfl (by decide) fun cdv A outer s H E hr =>
    have tk := takes_of (E := E) rfl rfl rfl rfl
    (pss_mCons (ps_mAsg (i := 2) sc_plain_set.nd rfl (by first | exact Or.inl rfl | exact Or.inr rfl) (pe_mCall (ok_plain_items T) (hr.mono (by decide)) (by rfl) T.m_plain_items T.F_plain_items.kp T.b_plain_items .nil (passT tk) (dfl := []) (fun _ _ => RpA.nil) hE_of (pa_mCons (pe_mVarF (pv 0)) (pa_mCons (pe_mVarF (pv 1)) pa_mNil)) (len_cons (len_cons len_nil)) rfl))
    (pss_mCons (ps_mIf (PW.pt (pw_mOr (pt_mCmp op_isN rop_isN (pe_mVarF (pv 2)) pe_mNon (nomark _)) (pw_or1 (pt_mTru rfl (pe_mCallB (cr_any rfl) rop_any (by rfl) T.z_any (by decide +kernel) (pa_mCons (pe_mLc (own := [("at", 3)]) rfl sc_plain_set.nd (pi_mRange (by rfl) T.z_range (pa_mCons (pe_mBin op_sub rop_sub (pe_mCallB call_len rop_len (by rfl) T.z_len (by decide +kernel) (pa_mCons (pe_mVarF (pv 2)) pa_mNil)) pe_mInt) pa_mNil)) (blkOk_by (own := [("at", 3)]) (N := N_plain_set) (sc := defScope s_plain_set) (by decide +kernel)) (gok_name 3) (by decide) (fun _ _ _ _ _ => (pg_name (i := 3) sc_plain_set.nd rfl (by first | exact Or.inl rfl | exact Or.inr rfl))) (fun _ _ _ _ _ => pts_mNil) (fun _ _ _ _ _ => (pe_mCmp (OpR.or (op_ge) (op_geP hr.units)) ROp.ord (pe_mIx rfl (hu_of hr) (pe_mVarF (pv 2)) (pe_mVarF (pv 3)) (fun _ _ => rfl) (fun _ _ => rfl)) (pe_mIx rfl (hu_of hr) (pe_mVarF (pv 2)) (pe_mBin op_addU rop_add (pe_mVarF (pv 3)) pe_mInt) (fun _ _ => rfl) (fun _ _ => rfl)) (nomark _)))) pa_mNil)) (by intro _; rfl)))))
    (pss_mOne (ps_mRet pe_mNon))
    pss_mNil)
    (pss_mOne (ps_mRet (pe_mVarF (pv 2))))))
def m_plain_room : MS := (mRet (mOr (mCall m_plain_set 4 [] (mCons (mVarF 0) (mCons (mC (.fn 24)) mNil))) (mC .non)))
theorem ok_plain_room (T : Tx mg g fd iA iF) : FnOk P w g.K mg base (L2.CX P w) 6 (g.F 28) (fd 28) P_plain_room (spF g 1 1 m_plain_room) :=
  okF T.F_plain_room sc_plain_room rfl rfl (by decide) fun cdv A outer s H E hr =>
    have tk := takes_of (E := E) rfl rfl rfl rfl
    (pss_mOne (ps_mRet (pe_mOr rfl (pe_mCall (ok_plain_set T) (hr.mono (by decide)) (by rfl) T.m_plain_set T.F_plain_set.kp T.b_plain_set .nil (passT tk) (dfl := []) (fun _ _ => RpA.nil) hE_of (pa_mCons (pe_mVarF (pv 0)) (pa_mCons (pe_mGf T.m_plain_square (by rfl)) pa_mNil)) (len_cons (len_cons len_nil)) rfl) (pe_one pe_mNon))))
def m_need_room : MS := (mRet (mCall m_needed 1 [] (mCons (mCall m_plain_room 1 [] (mCons (mVarF 0) mNil)) mNil)))
theorem ok_need_room (T : Tx mg g fd iA iF) : FnOk P w g.K mg base (L2.CX P w) 7 (g.F 30) (fd 30) P_need_room (spF g 1 1 m_need_room) :=
  okF T.F_need_room sc_need_room rfl rfl (by decide) fun cdv A outer s H E hr =>
    have tk := takes_of (E := E) rfl rfl rfl rfl
    (pss_mOne (ps_mRet (pe_mCall (ok_needed T) (hr.mono (by decide)) (by rfl) T.m_needed T.F_needed.kp T.b_needed .nil (passT tk) (dfl := []) (fun _ _ => RpA.nil) hE_of (pa_mCons (pe_mCall (ok_plain_room T) (hr.mono (by decide)) (by rfl) T.m_plain_room T.F_plain_room.kp T.b_plain_room .nil (passT tk) (dfl := []) (fun _ _ => RpA.nil) hE_of (pa_mCons (pe_mVarF (pv 0)) pa_mNil) (len_cons len_nil) rfl) pa_mNil) (len_cons len_nil) rfl)))
def m_points : MS := (mRet (mCall m_points_of 4 [] (mCons (mCall m_need_room 1 [] (mCons (mVarF 0) mNil)) mNil)))
theorem ok_points (T : Tx mg g fd iA iF) : FnOk P w g.K mg base (L2.CX P w) 8 (g.F 40) (fd 40) P_points (spF g 1 1 m_points) :=
  okF T.F_points sc_points rfl rfl (by decide) fun cdv A outer s H E hr =>
    have tk := takes_of (E := E) rfl rfl rfl rfl
    (pss_mOne (ps_mRet (pe_mCall (ok_points_of T) (hr.mono (by decide)) (by rfl) T.m_points_of T.F_points_of.kp T.b_points_of .nil (passT tk) (dfl := []) (fun _ _ => RpA.nil) hE_of (pa_mCons (pe_mCall (ok_need_room T) (hr.mono (by decide)) (by rfl) T.m_need_room T.F_need_room.kp T.b_need_room .nil (passT tk) (dfl := []) (fun _ _ => RpA.nil) hE_of (pa_mCons (pe_mVarF (pv 0)) pa_mNil) (len_cons len_nil) rfl) pa_mNil) (len_cons len_nil) rfl)))
def m_inner_of : MS := (mSeq (mAsg 1 (mCall m_table_of 2 [] (mCons (mCall m_points_of 4 [] (mCons (mVarF 0) mNil)) mNil)))
    (mRet (mFun tupleD (mCons (mLc (miSeq (mVarF 0)) (tgTup [2, 3]) (mAndT (mB (mInB false (mTup (mCons (mVarF 2) (mCons (mVarF 3) mNil))) 1)) (mAndT (mB (mInB false (mTup (mCons (mBin addD (mVarF 2) (mC (.int 1))) (mCons (mVarF 3) mNil))) 1)) (mAndT (mB (mInB false (mTup (mCons (mVarF 2) (mCons (mBin addD (mVarF 3) (mC (.int 1))) mNil))) 1)) (mB (mInB false (mTup (mCons (mBin addD (mVarF 2) (mC (.int 1))) (mCons (mBin addD (mVarF 3) (mC (.int 1))) mNil))) 1))))) (mTup (mCons (mVarF 2) (mCons (mVarF 3) mNil))) [2, 3]) mNil))))
theorem ok_inner_of (T : Tx mg g fd iA iF) : FnOk P w g.K mg base (L2.CX P w) 9 (g.F 4) (fd 4) P_inner_of (spF g 1 4 m_inner_of) :=
  okF T.F_inner_of sc_inner_of rfl rfl (by decide) fun cdv A outer s H E hr =>
    have tk := takes_of (E := E) rfl rfl rfl rfl
    (pss_mCons (ps_mAsg (i := 1) sc_inner_of.nd rfl (by first | exact Or.inl rfl | exact Or.inr rfl) (pe_mCall (ok_table_of T) (hr.mono (by decide)) (by rfl) T.m_table_of T.F_table_of.kp T.b_table_of .nil (passT tk) (dfl := []) (fun _ _ => RpA.nil) hE_of (pa_mCons (pe_mCall (ok_points_of T) (hr.mono (by decide)) (by rfl) T.m_points_of T.F_points_of.kp T.b_points_of .nil (passT tk) (dfl := []) (fun _ _ => RpA.nil) hE_of (pa_mCons (pe_mVarF (pv 0)) pa_mNil) (len_cons len_nil) rfl) pa_mNil) (len_cons len_nil) rfl))
    (pss_mOne (ps_mRet (pe_mCallT call_tuple_of rop_tuple (by rfl) T.z_tuple (by decide +kernel) (pa_mCons (pe_mLc (own := [("x", 2), ("y", 3)]) rfl sc_inner_of.nd (pi_mSeq rfl (pe_mVarF (pv 0))) (blkOk_by (own := [("x", 2), ("y", 3)]) (N := N_inner_of) (sc := defScope s_inner_of) (by decide +kernel)) (gok_tup [2, 3]) (by decide) (fun _ _ _ _ _ => (pg_tup (by rfl) (pgs_cons (pg_name (i := 2) sc_inner_of.nd rfl (by first | exact Or.inl rfl | exact Or.inr rfl)) (pgs_cons (pg_name (i := 3) sc_inner_of.nd rfl (by first | exact Or.inl rfl | exact Or.inr rfl)) pgs_nil)))) (fun _ _ _ _ _ => (pts_one (PW.pt (pw_mAnd (pt_mInB (OpR.or (op_inP hr.units) (op_inDc (hu_of hr))) (pe_mTup (pa_mCons (pe_mVarF (pv 2)) (pa_mCons (pe_mVarF (pv 3)) pa_mNil))) (pv 1) (by with_unfolding_all rfl)) (pw_mAnd (pt_mInB (OpR.or (op_inP hr.units) (op_inDc (hu_of hr))) (pe_mTup (pa_mCons (pe_mBin op_addU rop_add (pe_mVarF (pv 2)) pe_mInt) (pa_mCons (pe_mVarF (pv 3)) pa_mNil))) (pv 1) (by with_unfolding_all rfl)) (pw_mAnd (pt_mInB (OpR.or (op_inP hr.units) (op_inDc (hu_of hr))) (pe_mTup (pa_mCons (pe_mVarF (pv 2)) (pa_mCons (pe_mBin op_addU rop_add (pe_mVarF (pv 3)) pe_mInt) pa_mNil))) (pv 1) (by with_unfolding_all rfl)) (pw_and1 (pt_mInB (OpR.or (op_inP hr.units) (op_inDc (hu_of hr))) (pe_mTup (pa_mCons (pe_mBin op_addU rop_add (pe_mVarF (pv 2)) pe_mInt) (pa_mCons (pe_mBin op_addU rop_add (pe_mVarF (pv 3)) pe_mInt) pa_mNil))) (pv 1) (by with_unfolding_all rfl))))))))) (fun _ _ _ _ _ => (pe_mTup (pa_mCons (pe_mVarF (pv 2)) (pa_mCons (pe_mVarF (pv 3)) pa_mNil))))) pa_mNil)))))
def m_rim_of : MS := (mSeq (mAsg 1 (mCall m_table_of 2 [] (mCons (mCall m_inner_of 4 [] (mCons (mVarF 0) mNil)) mNil)))
    (mRet (mFun tupleD (mCons (mLc (miSeq (mVarF 0)) (tgName 2) (mB (mInB true (mVarF 2) 1)) (mVarF 2) [2]) mNil))))
theorem ok_rim_of (T : Tx mg g fd iA iF) : FnOk P w g.K mg base (L2.CX P w) 10 (g.F 5) (fd 5) P_rim_of (spF g 1 3 m_rim_of) :=
  okF T.F_rim_of sc_rim_of rfl rfl (by decide) fun cdv A outer s H E hr =>
    have tk := takes_of (E := E) rfl rfl rfl rfl
    (pss_mCons (ps_mAsg (i := 1) sc_rim_of.nd rfl (by first | exact Or.inl rfl | exact Or.inr rfl) (pe_mCall (ok_table_of T) (hr.mono (by decide)) (by rfl) T.m_table_of T.F_table_of.kp T.b_table_of .nil (passT tk) (dfl := []) (fun _ _ => RpA.nil) hE_of (pa_mCons (pe_mCall (ok_inner_of T) (hr.mono (by decide)) (by rfl) T.m_inner_of T.F_inner_of.kp T.b_inner_of .nil (passT tk) (dfl := []) (fun _ _ => RpA.nil) hE_of (pa_mCons (pe_mVarF (pv 0)) pa_mNil) (len_cons len_nil) rfl) pa_mNil) (len_cons len_nil) rfl))
    (pss_mOne (ps_mRet (pe_mCallT call_tuple_of rop_tuple (by rfl) T.z_tuple (by decide +kernel) (pa_mCons (pe_mLc (own := [("square", 2)]) rfl sc_rim_of.nd (pi_mSeq rfl (pe_mVarF (pv 0))) (blkOk_by (own := [("square", 2)]) (N := N_rim_of) (sc := defScope s_rim_of) (by decide +kernel)) (gok_name 2) (by decide) (fun _ _ _ _ _ => (pg_name (i := 2) sc_rim_of.nd rfl (by first | exact Or.inl rfl | exact Or.inr rfl))) (fun _ _ _ _ _ => (pts_one (pt_mInB (OpR.or (op_notInP hr.units) (op_notInDc (hu_of hr))) (pe_mVarF (pv 2)) (pv 1) (by with_unfolding_all rfl)))) (fun _ _ _ _ _ => (pe_mVarF (pv 2)))) pa_mNil)))))
def m_four_about : MS := (mSeq (mTo (tgTL [1, 2]) (mVarF 0))
    (mRet (mTup (mCons (mTup (mCons (mBin subD (mVarF 1) (mC (.int 1))) (mCons (mBin subD (mVarF 2) (mC (.int 1))) mNil))) (mCons (mTup (mCons (mBin subD (mVarF 1) (mC (.int 1))) (mCons (mVarF 2) mNil))) (mCons (mTup (mCons (mVarF 1) (mCons (mBin subD (mVarF 2) (mC (.int 1))) mNil))) (mCons (mTup (mCons (mVarF 1) (mCons (mVarF 2) mNil))) mNil)))))))
theorem ok_four_about (T : Tx mg g fd iA iF) : FnOk P w g.K mg base (L2.CX P w) 1 (g.F 6) (fd 6) P_four_about (spF g 1 3 m_four_about) :=
  okF T.F_four_about sc_four_about rfl rfl (by decide) fun cdv A outer s H E hr =>
    (pss_mCons (ps_mTo (pe_mVarF (pv 0)) (pg_tl (by rfl) (pgs_cons (pg_name (i := 1) sc_four_about.nd rfl (by first | exact Or.inl rfl | exact Or.inr rfl)) (pgs_cons (pg_name (i := 2) sc_four_about.nd rfl (by first | exact Or.inl rfl | exact Or.inr rfl)) pgs_nil))) (gok_tl [1, 2]))
    (pss_mOne (ps_mRet (pe_mTup (pa_mCons (pe_mTup (pa_mCons (pe_mBin op_sub rop_sub (pe_mVarF (pv 1)) pe_mInt) (pa_mCons (pe_mBin op_sub rop_sub (pe_mVarF (pv 2)) pe_mInt) pa_mNil))) (pa_mCons (pe_mTup (pa_mCons (pe_mBin op_sub rop_sub (pe_mVarF (pv 1)) pe_mInt) (pa_mCons (pe_mVarF (pv 2)) pa_mNil))) (pa_mCons (pe_mTup (pa_mCons (pe_mVarF (pv 1)) (pa_mCons (pe_mBin op_sub rop_sub (pe_mVarF (pv 2)) pe_mInt) pa_mNil))) (pa_mCons (pe_mTup (pa_mCons (pe_mVarF (pv 1)) (pa_mCons (pe_mVarF (pv 2)) pa_mNil))) pa_mNil))))))))
def m_pairs_of : MS := (mSeq (mAsg 1 (mCall m_table_of 2 [] (mCons (mVarF 0) mNil)))
    (mRet (mLc2 (miSeq (mVarF 0)) (tgName 2) mYes (miSeq (mCall m_pushed 6 [] (mCons (mVarF 2) (mCons (mTup (mCons (mTup (mCons (mC (.int 0)) (mCons (mC (.int 1)) mNil))) (mCons (mTup (mCons (mC (.int 1)) (mCons (mC (.int 0)) mNil))) mNil))) mNil)))) (tgName 3) (mB (mInB false (mVarF 3) 1)) (mTup (mCons (mVarF 2) (mCons (mVarF 3) mNil))) [2, 3] [3])))
theorem ok_pairs_of (T : Tx mg g fd iA iF) : FnOk P w g.K mg base (L2.CX P w) 2 (g.F 8) (fd 8) P_pairs_of (spF g 1 4 m_pairs_of) :=
  okF T.F_pairs_of sc_pairs_of rfl rfl (by decide) fun cdv A outer s H E hr =>
    have tk := takes_of (E := E) rfl rfl rfl rfl
    (pss_mCons (ps_mAsg (i := 1) sc_pairs_of.nd rfl (by first | exact Or.inl rfl | exact Or.inr rfl) (pe_mCall (ok_table_of T) (hr.mono (by decide)) (by rfl) T.m_table_of T.F_table_of.kp T.b_table_of .nil (passT tk) (dfl := []) (fun _ _ => RpA.nil) hE_of (pa_mCons (pe_mVarF (pv 0)) pa_mNil) (len_cons len_nil) rfl))
    (pss_mOne (ps_mRet (pe_mLc2 (own := [("square", 2), ("other", 3)]) (vs1 := [3]) rfl sc_pairs_of.nd (pi_mSeq rfl (pe_mVarF (pv 0))) (blkOk_by (own := [("square", 2), ("other", 3)]) (N := N_pairs_of) (sc := defScope s_pairs_of) (by decide +kernel)) (by decide) (gok_name 2) (by decide) (gok_name 3) (by decide) (fun _ _ _ _ _ => (pg_name (i := 2) sc_pairs_of.nd rfl (by first | exact Or.inl rfl | exact Or.inr rfl))) (fun _ _ _ _ _ => pts_mNil) (fun _ _ _ _ _ => (pi_mSeq rfl (pe_mCall (ok_pushed T) (hr.mono (by decide)) (by rfl) T.m_pushed T.F_pushed.kp T.b_pushed .nil passF (dfl := []) (fun _ _ => RpA.nil) hE_no (pa_mCons (pe_mVarF (pv 2)) (pa_mCons (pe_mTup (pa_mCons (pe_mTup (pa_mCons pe_mInt (pa_mCons pe_mInt pa_mNil))) (pa_mCons (pe_mTup (pa_mCons pe_mInt (pa_mCons pe_mInt pa_mNil))) pa_mNil))) pa_mNil)) (len_cons (len_cons len_nil)) rfl))) (fun _ _ _ _ _ => (pg_name (i := 3) sc_pairs_of.nd rfl (by first | exact Or.inl rfl | exact Or.inr rfl))) (fun _ _ _ _ _ => (pts_one (pt_mInB (OpR.or (op_inP hr.units) (op_inDc (hu_of hr))) (pe_mVarF (pv 3)) (pv 1) (by with_unfolding_all rfl)))) (fun _ _ _ _ _ => (pe_mTup (pa_mCons (pe_mVarF (pv 2)) (pa_mCons (pe_mVarF (pv 3)) pa_mNil))))))))
def m_spots_of : MS := (mSeq (mAsg 1 (mLc (miSeq (mVarF 0)) (tgName 3) mYes (mTup (mCons (mVarF 3) mNil)) [3]))
    (mSeq (mAsg 2 (mLc (miSeq (mCall m_points_of 4 [] (mCons (mVarF 0) mNil))) (tgName 4) mYes (mCall m_four_about 3 [] (mCons (mVarF 4) mNil)) [4]))
    (mRet (mFun tupleD (mCons (mFun sortD (mCons (mBin addD (mBin addD (mVarF 1) (mCall m_pairs_of 4 [] (mCons (mVarF 0) mNil))) (mVarF 2)) mNil)) mNil)))))
theorem ok_spots_of (T : Tx mg g fd iA iF) : FnOk P w g.K mg base (L2.CX P w) 3 (g.F 9) (fd 9) P_spots_of (spF g 1 5 m_spots_of) :=
  okF T.F_spots_of sc_spots_of rfl rfl (by decide) fun cdv A outer s H E hr =>
    have tk := takes_of (E := E) rfl rfl rfl rfl
    (pss_mCons (ps_mLc (own := [("square", 3)]) (i := 1) rfl sc_spots_of.nd rfl rfl (sw_true rfl rfl rfl (by decide +kernel)) (pi_mSeq rfl (pe_mVarF (pv 0))) (blkOk_by (own := [("square", 3)]) (N := N_spots_of) (sc := defScope s_spots_of) (by decide +kernel)) (gok_name 3) (by decide) (fun _ _ _ _ _ => (pg_name (i := 3) sc_spots_of.nd rfl (by first | exact Or.inl rfl | exact Or.inr rfl))) (fun _ _ _ _ _ => pts_mNil) (fun _ _ _ _ _ => (pe_mTup (pa_mCons (pe_mVarF (pv 3)) pa_mNil))))
    (pss_mCons (ps_mLc (own := [("point", 4)]) (i := 2) rfl sc_spots_of.nd rfl rfl (sw_true rfl rfl rfl (by decide +kernel)) (pi_mSeq rfl (pe_mCall (ok_points_of T) (hr.mono (by decide)) (by rfl) T.m_points_of T.F_points_of.kp T.b_points_of .nil (passT tk) (dfl := []) (fun _ _ => RpA.nil) hE_of (pa_mCons (pe_mVarF (pv 0)) pa_mNil) (len_cons len_nil) rfl)) (blkOk_by (own := [("point", 4)]) (N := N_spots_of) (sc := defScope s_spots_of) (by decide +kernel)) (gok_name 4) (by decide) (fun _ _ _ _ _ => (pg_name (i := 4) sc_spots_of.nd rfl (by first | exact Or.inl rfl | exact Or.inr rfl))) (fun _ _ _ _ _ => pts_mNil) (fun _ _ _ _ _ => (pe_mCall (ok_four_about T) (hr.mono (by decide)) (by rfl) T.m_four_about T.F_four_about.kp T.b_four_about .nil passF (dfl := []) (fun _ _ => RpA.nil) hE_no (pa_mCons (pe_mVarF (pv 4)) pa_mNil) (len_cons len_nil) rfl)))
    (pss_mOne (ps_mRet (pe_mCallT call_tuple_of rop_tuple (by rfl) T.z_tuple (by decide +kernel) (pa_mCons (pe_mCallB (cr_sortDt rfl hr.units) rop_sort (by rfl) T.z_sorted (by decide +kernel) (pa_mCons (pe_mBin op_addU rop_add (pe_mBin op_addU rop_add (pe_mVarF (pv 1)) (pe_mCall (ok_pairs_of T) (hr.mono (by decide)) (by rfl) T.m_pairs_of T.F_pairs_of.kp T.b_pairs_of .nil (passT tk) (dfl := []) (fun _ _ => RpA.nil) hE_of (pa_mCons (pe_mVarF (pv 0)) pa_mNil) (len_cons len_nil) rfl)) (pe_mVarF (pv 2))) pa_mNil)) pa_mNil))))))
def m_spots_with : MS := (mSeq (mAsg 2 (mFun tupleD (mCons (mFun sortD (mCons (mBin addD (mLst (mCons (mVarF 1) mNil)) (mFun listD (mCons (mCall m_within 3 [] (mCons (mVarF 0) (mCons (mCall m_pushed 6 [] (mCons (mVarF 1) (mCons (mC (.kt [(.kt [(.int (-1)), (.int (-1))]), (.kt [(.int (-1)), (.int 0)]), (.kt [(.int (-1)), (.int 1)]), (.kt [(.int 0), (.int (-1))]), (.kt [(.int 0), (.int 1)]), (.kt [(.int 1), (.int (-1))]), (.kt [(.int 1), (.int 0)]), (.kt [(.int 1), (.int 1)])])) mNil))) mNil))) mNil))) mNil)) mNil)))
    (mRet (mFun tupleD (mCons (mLc (miSeq (mCall m_spots_of 5 [] (mCons (mVarF 2) mNil))) (tgName 3) (mB (mInB false (mVarF 1) 3)) (mVarF 3) [3]) mNil))))
theorem ok_spots_with (T : Tx mg g fd iA iF) : FnOk P w g.K mg base (L2.CX P w) 4 (g.F 10) (fd 10) P_spots_with (spF g 2 4 m_spots_with) :=
  okF T.F_spots_with sc_spots_with rfl rfl (by decide) fun cdv A outer s H E hr =>
    have tk := takes_of (E := E) rfl rfl rfl rfl
    (pss_mCons (ps_mAsg (i := 2) sc_spots_with.nd rfl (by first | exact Or.inl rfl | exact Or.inr rfl) (pe_mCallT call_tuple_of rop_tuple (by rfl) T.z_tuple (by decide +kernel) (pa_mCons (pe_mCallB (cr_sortDt rfl hr.units) rop_sort (by rfl) T.z_sorted (by decide +kernel) (pa_mCons (pe_mBin op_addU rop_add (pe_mLst (pa_mCons (pe_mVarF (pv 1)) pa_mNil)) (pe_mCallT call_list_of rop_list (by rfl) T.z_list (by decide +kernel) (pa_mCons (pe_mCall (ok_within T) (hr.mono (by decide)) (by rfl) T.m_within T.F_within.kp T.b_within .nil (passT tk) (dfl := []) (fun _ _ => RpA.nil) hE_of (pa_mCons (pe_mVarF (pv 0)) (pa_mCons (pe_mCall (ok_pushed T) (hr.mono (by decide)) (by rfl) T.m_pushed T.F_pushed.kp T.b_pushed .nil (passT tk) (dfl := []) (fun _ _ => RpA.nil) hE_of (pa_mCons (pe_mVarF (pv 1)) (pa_mCons (pe_mGt T.c_AROUND (by rfl)) pa_mNil)) (len_cons (len_cons len_nil)) rfl) pa_mNil)) (len_cons (len_cons len_nil)) rfl) pa_mNil))) pa_mNil)) pa_mNil)))
    (pss_mOne (ps_mRet (pe_mCallT call_tuple_of rop_tuple (by rfl) T.z_tuple (by decide +kernel) (pa_mCons (pe_mLc (own := [("spot", 3)]) rfl sc_spots_with.nd (pi_mSeq rfl (pe_mCall (ok_spots_of T) (hr.mono (by decide)) (by rfl) T.m_spots_of T.F_spots_of.kp T.b_spots_of .nil (passT tk) (dfl := []) (fun _ _ => RpA.nil) hE_of (pa_mCons (pe_mVarF (pv 2)) pa_mNil) (len_cons len_nil) rfl)) (blkOk_by (own := [("spot", 3)]) (N := N_spots_with) (sc := defScope s_spots_with) (by decide +kernel)) (gok_name 3) (by decide) (fun _ _ _ _ _ => (pg_name (i := 3) sc_spots_with.nd rfl (by first | exact Or.inl rfl | exact Or.inr rfl))) (fun _ _ _ _ _ => (pts_one (pt_mInB (OpR.or (op_inP hr.units) (op_inDc (hu_of hr))) (pe_mVarF (pv 1)) (pv 3) (by with_unfolding_all rfl)))) (fun _ _ _ _ _ => (pe_mVarF (pv 3)))) pa_mNil)))))
def m_east_fit : MS := (mRet (mBin eqD (mBin eqD (mVarF 0) (mC (.int 1))) (mBin eqD (mVarF 1) (mC (.int 3)))))
theorem ok_east_fit (T : Tx mg g fd iA iF) : FnOk P w g.K mg base (L2.CX P w) 1 (g.F 11) (fd 11) P_east_fit (spF g 2 2 m_east_fit) :=
  okF T.F_east_fit sc_east_fit rfl rfl (by decide) fun cdv A outer s H E hr =>
    (pss_mOne (ps_mRet (pe_mCmp (op_eqP hr.units) rop_eq (pe_mCmp (op_eqP hr.units) rop_eq (pe_mVarF (pv 0)) (pe_mGi T.c_EAST (by rfl)) (nomark _)) (pe_mCmp (op_eqP hr.units) rop_eq (pe_mVarF (pv 1)) (pe_mGi T.c_WEST (by rfl)) (nomark _)) (nomark _))))
def m_south_fit : MS := (mRet (mBin eqD (mBin eqD (mVarF 0) (mC (.int 2))) (mBin eqD (mVarF 1) (mC (.int 4)))))
theorem ok_south_fit (T : Tx mg g fd iA iF) : FnOk P w g.K mg base (L2.CX P w) 1 (g.F 12) (fd 12) P_south_fit (spF g 2 2 m_south_fit) :=
  okF T.F_south_fit sc_south_fit rfl rfl (by decide) fun cdv A outer s H E hr =>
    (pss_mOne (ps_mRet (pe_mCmp (op_eqP hr.units) rop_eq (pe_mCmp (op_eqP hr.units) rop_eq (pe_mVarF (pv 0)) (pe_mGi T.c_SOUTH (by rfl)) (nomark _)) (pe_mCmp (op_eqP hr.units) rop_eq (pe_mVarF (pv 1)) (pe_mGi T.c_NORTH (by rfl)) (nomark _)) (nomark _))))
def m_four_fit : MS := (mSeq (mTo (tgTL [1, 2, 3, 4]) (mVarF 0))
    (mSeq (mAsg 5 (mOr (mBin eqD (mTup (mCons (mVarF 1) (mCons (mVarF 3) mNil))) (mTup (mCons (mC (.int 1)) (mCons (mC (.int 3)) mNil)))) (mBin eqD (mTup (mCons (mVarF 2) (mCons (mVarF 4) mNil))) (mTup (mCons (mC (.int 1)) (mCons (mC (.int 3)) mNil))))))
    (mSeq (mAsg 6 (mOr (mBin eqD (mTup (mCons (mVarF 1) (mCons (mVarF 2) mNil))) (mTup (mCons (mC (.int 2)) (mCons (mC (.int 4)) mNil)))) (mBin eqD (mTup (mCons (mVarF 3) (mCons (mVarF 4) mNil))) (mTup (mCons (mC (.int 2)) (mCons (mC (.int 4)) mNil))))))
    (mRet (mOr (mVarF 5) (mVarF 6))))))
theorem ok_four_fit (T : Tx mg g fd iA iF) : FnOk P w g.K mg base (L2.CX P w) 1 (g.F 13) (fd 13) P_four_fit (spF g 1 7 m_four_fit) :=
  okF T.F_four_fit sc_four_fit rfl rfl (by decide) fun cdv A outer s H E hr =>
    (pss_mCons (ps_mTo (pe_mVarF (pv 0)) (pg_tl (by rfl) (pgs_cons (pg_name (i := 1) sc_four_fit.nd rfl (by first | exact Or.inl rfl | exact Or.inr rfl)) (pgs_cons (pg_name (i := 2) sc_four_fit.nd rfl (by first | exact Or.inl rfl | exact Or.inr rfl)) (pgs_cons (pg_name (i := 3) sc_four_fit.nd rfl (by first | exact Or.inl rfl | exact Or.inr rfl)) (pgs_cons (pg_name (i := 4) sc_four_fit.nd rfl (by first | exact Or.inl rfl | exact Or.inr rfl)) pgs_nil))))) (gok_tl [1, 2, 3, 4]))
    (pss_mCons (ps_mAsg (i := 5) sc_four_fit.nd rfl (by first | exact Or.inl rfl | exact Or.inr rfl) (pe_mOr rfl (pe_mCmp (op_eqP hr.units) rop_eq (pe_mTup (pa_mCons (pe_mVarF (pv 1)) (pa_mCons (pe_mVarF (pv 3)) pa_mNil))) (pe_mTup (pa_mCons (pe_mGi T.c_EAST (by rfl)) (pa_mCons (pe_mGi T.c_WEST (by rfl)) pa_mNil))) (nomark _)) (pe_one (pe_mCmp (op_eqP hr.units) rop_eq (pe_mTup (pa_mCons (pe_mVarF (pv 2)) (pa_mCons (pe_mVarF (pv 4)) pa_mNil))) (pe_mTup (pa_mCons (pe_mGi T.c_EAST (by rfl)) (pa_mCons (pe_mGi T.c_WEST (by rfl)) pa_mNil))) (nomark _)))))
    (pss_mCons (ps_mAsg (i := 6) sc_four_fit.nd rfl (by first | exact Or.inl rfl | exact Or.inr rfl) (pe_mOr rfl (pe_mCmp (op_eqP hr.units) rop_eq (pe_mTup (pa_mCons (pe_mVarF (pv 1)) (pa_mCons (pe_mVarF (pv 2)) pa_mNil))) (pe_mTup (pa_mCons (pe_mGi T.c_SOUTH (by rfl)) (pa_mCons (pe_mGi T.c_NORTH (by rfl)) pa_mNil))) (nomark _)) (pe_one (pe_mCmp (op_eqP hr.units) rop_eq (pe_mTup (pa_mCons (pe_mVarF (pv 3)) (pa_mCons (pe_mVarF (pv 4)) pa_mNil))) (pe_mTup (pa_mCons (pe_mGi T.c_SOUTH (by rfl)) (pa_mCons (pe_mGi T.c_NORTH (by rfl)) pa_mNil))) (nomark _)))))
    (pss_mOne (ps_mRet (pe_mOr rfl (pe_mVarF (pv 5)) (pe_one (pe_mVarF (pv 6)))))))))
def m_side_fit : MS := (mSeq (mIf (mB (mBin eqD (mBin ixD (mBin ixD (mVarF 0) (mC (.int 0))) (mC (.int 0))) (mBin ixD (mBin ixD (mVarF 0) (mC (.int 1))) (mC (.int 0)))))
    (mRet (mCall m_south_fit 2 [] (mCons (mBin ixD (mVarF 1) (mC (.int 0))) (mCons (mBin ixD (mVarF 1) (mC (.int 1))) mNil))))
    mSkip)
    (mRet (mCall m_east_fit 2 [] (mCons (mBin ixD (mVarF 1) (mC (.int 0))) (mCons (mBin ixD (mVarF 1) (mC (.int 1))) mNil)))))
theorem ok_side_fit (T : Tx mg g fd iA iF) : FnOk P w g.K mg base (L2.CX P w) 2 (g.F 14) (fd 14) P_side_fit (spF g 2 2 m_side_fit) :=
  okF T.F_side_fit sc_side_fit rfl rfl (by decide) fun cdv A outer s H E hr =>
    have tk := takes_of (E := E) rfl rfl rfl rfl
    (pss_mCons (ps_mIf (pt_mCmp (op_eqP hr.units) rop_eq (pe_mIx rfl (hu_of hr) (pe_mIx rfl (hu_of hr) (pe_mVarF (pv 0)) pe_mInt (fun _ _ => rfl) (fun _ _ => rfl)) pe_mInt (fun _ _ => rfl) (fun _ _ => rfl)) (pe_mIx rfl (hu_of hr) (pe_mIx rfl (hu_of hr) (pe_mVarF (pv 0)) pe_mInt (fun _ _ => rfl) (fun _ _ => rfl)) pe_mInt (fun _ _ => rfl) (fun _ _ => rfl)) (nomark _))
    (pss_mOne (ps_mRet (pe_mCall (ok_south_fit T) (hr.mono (by decide)) (by rfl) T.m_south_fit T.F_south_fit.kp T.b_south_fit .nil (passT tk) (dfl := []) (fun _ _ => RpA.nil) hE_of (pa_mCons (pe_mIx rfl (hu_of hr) (pe_mVarF (pv 1)) pe_mInt (fun _ _ => rfl) (fun _ _ => rfl)) (pa_mCons (pe_mIx rfl (hu_of hr) (pe_mVarF (pv 1)) pe_mInt (fun _ _ => rfl) (fun _ _ => rfl)) pa_mNil)) (len_cons (len_cons len_nil)) rfl)))
    pss_mNil)
    (pss_mOne (ps_mRet (pe_mCall (ok_east_fit T) (hr.mono (by decide)) (by rfl) T.m_east_fit T.F_east_fit.kp T.b_east_fit .nil (passT tk) (dfl := []) (fun _ _ => RpA.nil) hE_of (pa_mCons (pe_mIx rfl (hu_of hr) (pe_mVarF (pv 1)) pe_mInt (fun _ _ => rfl) (fun _ _ => rfl)) (pa_mCons (pe_mIx rfl (hu_of hr) (pe_mVarF (pv 1)) pe_mInt (fun _ _ => rfl) (fun _ _ => rfl)) pa_mNil)) (len_cons (len_cons len_nil)) rfl))))
def m_stays : MS := (mRet (mInB false (mCall m_toward 2 [] (mCons (mVarF 1) (mCons (mVarF 2) mNil))) 0))
theorem ok_stays (T : Tx mg g fd iA iF) : FnOk P w g.K mg base (L2.CX P w) 2 (g.F 15) (fd 15) P_stays (spF g 3 3 m_stays) :=
  okF T.F_stays sc_stays rfl rfl (by decide) fun cdv A outer s H E hr =>
    have tk := takes_of (E := E) rfl rfl rfl rfl
    (pss_mOne (ps_mRet (pe_mInB (OpR.or (op_inP hr.units) (op_inDc (hu_of hr))) (pe_mCall (ok_toward T) (hr.mono (by decide)) (by rfl) T.m_toward T.F_toward.kp T.b_toward .nil (passT tk) (dfl := []) (fun _ _ => RpA.nil) hE_of (pa_mCons (pe_mVarF (pv 1)) (pa_mCons (pe_mVarF (pv 2)) pa_mNil)) (len_cons (len_cons len_nil)) rfl) (pv 0) (by with_unfolding_all rfl))))
def m_spot_fits : MS := (mSeq (mIf (mB (mBin eqD (mFun lenD (mCons (mVarF 1) mNil)) (mC (.int 1))))
    (mRet (mCall m_stays 3 [] (mCons (mVarF 0) (mCons (mBin ixD (mVarF 1) (mC (.int 0))) (mCons (mBin ixD (mVarF 2) (mC (.int 0))) mNil)))))
    mSkip)
    (mSeq (mIf (mB (mBin eqD (mFun lenD (mCons (mVarF 1) mNil)) (mC (.int 2))))
    (mRet (mCall m_side_fit 2 [] (mCons (mVarF 1) (mCons (mVarF 2) mNil))))
    mSkip)
    (mRet (mCall m_four_fit 7 [] (mCons (mVarF 2) mNil)))))
theorem ok_spot_fits (T : Tx mg g fd iA iF) : FnOk P w g.K mg base (L2.CX P w) 3 (g.F 16) (fd 16) P_spot_fits (spF g 3 3 m_spot_fits) :=
  okF T.F_spot_fits sc_spot_fits rfl rfl (by decide) fun cdv A outer s H E hr =>
    have tk := takes_of (E := E) rfl rfl rfl rfl
    (pss_mCons (ps_mIf (pt_mCmp (op_eqP hr.units) rop_eq (pe_mCallB call_len rop_len (by rfl) T.z_len (by decide +kernel) (pa_mCons (pe_mVarF (pv 1)) pa_mNil)) pe_mInt (nomark _))
    (pss_mOne (ps_mRet (pe_mCall (ok_stays T) (hr.mono (by decide)) (by rfl) T.m_stays T.F_stays.kp T.b_stays .nil (passT tk) (dfl := []) (fun _ _ => RpA.nil) hE_of (pa_mCons (pe_mVarF (pv 0)) (pa_mCons (pe_mIx rfl (hu_of hr) (pe_mVarF (pv 1)) pe_mInt (fun _ _ => rfl) (fun _ _ => rfl)) (pa_mCons (pe_mIx rfl (hu_of hr) (pe_mVarF (pv 2)) pe_mInt (fun _ _ => rfl) (fun _ _ => rfl)) pa_mNil))) (len_cons (len_cons (len_cons len_nil))) rfl)))
    pss_mNil)
    (pss_mCons (ps_mIf (pt_mCmp (op_eqP hr.units) rop_eq (pe_mCallB call_len rop_len (by rfl) T.z_len (by decide +kernel) (pa_mCons (pe_mVarF (pv 1)) pa_mNil)) pe_mInt (nomark _))
    (pss_mOne (ps_mRet (pe_mCall (ok_side_fit T) (hr.mono (by decide)) (by rfl) T.m_side_fit T.F_side_fit.kp T.b_side_fit .nil (passT tk) (dfl := []) (fun _ _ => RpA.nil) hE_of (pa_mCons (pe_mVarF (pv 1)) (pa_mCons (pe_mVarF (pv 2)) pa_mNil)) (len_cons (len_cons len_nil)) rfl)))
    pss_mNil)
    (pss_mOne (ps_mRet (pe_mCall (ok_four_fit T) (hr.mono (by decide)) (by rfl) T.m_four_fit T.F_four_fit.kp T.b_four_fit .nil (passT tk) (dfl := []) (fun _ _ => RpA.nil) hE_of (pa_mCons (pe_mVarF (pv 2)) pa_mNil) (len_cons len_nil) rfl)))))
def m_kinds_in : MS := (mRet (mFun tupleD (mCons (mLc (miFun rangeF (mCons (mC (.int 5)) mNil)) (tgName 2) (mTru (mCall m_stays 3 [] (mCons (mVarF 0) (mCons (mVarF 1) (mCons (mVarF 2) mNil))))) (mVarF 2) [2]) mNil)))
theorem ok_kinds_in (T : Tx mg g fd iA iF) : FnOk P w g.K mg base (L2.CX P w) 3 (g.F 17) (fd 17) P_kinds_in (spF g 2 3 m_kinds_in) :=
  okF T.F_kinds_in sc_kinds_in rfl rfl (by decide) fun cdv A outer s H E hr =>
    (pss_mOne (ps_mRet (pe_mCallT call_tuple_of rop_tuple (by rfl) T.z_tuple (by decide +kernel) (pa_mCons (pe_mLc (own := [("kind", 2)]) rfl sc_kinds_in.nd (pi_mRange (by rfl) T.z_range (pa_mCons pe_mInt pa_mNil)) (blkOk_by (own := [("kind", 2)]) (N := N_kinds_in) (sc := defScope s_kinds_in) (by decide +kernel)) (gok_name 2) (by decide) (fun _ _ _ _ _ => (pg_name (i := 2) sc_kinds_in.nd rfl (by first | exact Or.inl rfl | exact Or.inr rfl))) (fun _ _ _ _ _ => (pts_one (pt_mTru rfl (pe_mCall (ok_stays T) (hr.mono (by decide)) (by rfl) T.m_stays T.F_stays.kp T.b_stays .nil passF (dfl := []) (fun _ _ => RpA.nil) hE_no (pa_mCons (pe_mVarF (pv 0)) (pa_mCons (pe_mVarF (pv 1)) (pa_mCons (pe_mVarF (pv 2)) pa_mNil))) (len_cons (len_cons (len_cons len_nil))) rfl) (by intro _; rfl)))) (fun _ _ _ _ _ => (pe_mVarF (pv 2)))) pa_mNil))))
def m_as_told : MS := (mRet (mAnd (mBin (isND true) (mVarF 0) (mC .non)) (mBin eqD (mVarF 0) (mVarF 1))))
theorem ok_as_told (T : Tx mg g fd iA iF) : FnOk P w g.K mg base (L2.CX P w) 1 (g.F 20) (fd 20) P_as_told (spF g 2 2 m_as_told) :=
  okF T.F_as_told sc_as_told rfl rfl (by decide) fun cdv A outer s H E hr =>
    (pss_mOne (ps_mRet (pe_mAnd rfl (pe_mCmp op_notN rop_notN (pe_mVarF (pv 0)) pe_mNon (nomark _)) (pe_one (pe_mCmp (op_eqP hr.units) rop_eq (pe_mVarF (pv 0)) (pe_mVarF (pv 1)) (nomark _))))))
def m_plain_pairs : MS := (mRet (mCall m_plain_items 4 [] (mCons (mVarF 0) (mCons (mC (.fn 23)) mNil))))
theorem ok_plain_pairs (T : Tx mg g fd iA iF) : FnOk P w g.K mg base (L2.CX P w) 5 (g.F 27) (fd 27) P_plain_pairs (spF g 1 1 m_plain_pairs) :=
  okF T.F_plain_pairs sc_plain_pairs rfl rfl (by decide) fun cdv A outer s H E hr =>
    have tk := takes_of (E := E) rfl rfl rfl rfl
    (pss_mOne (ps_mRet (pe_mCall (ok_plain_items T) (hr.mono (by decide)) (by rfl) T.m_plain_items T.F_plain_items.kp T.b_plain_items .nil (passT tk) (dfl := []) (fun _ _ => RpA.nil) hE_of (pa_mCons (pe_mVarF (pv 0)) (pa_mCons (pe_mGf T.m_plain_pair (by rfl)) pa_mNil)) (len_cons (len_cons len_nil)) rfl)))
def m_plain_kinds : MS := (mSeq (mIf (mOrT (mNotT (mTru (mIsa2 .list .tuple (mVarF 0)))) (mB (mBin neD (mFun lenD (mCons (mVarF 0) mNil)) (mVarF 1))))
    (mRet (mC .non))
    mSkip)
    (mRet (mIfE (mTru (mFun allD (mCons (mLc (miSeq (mVarF 0)) (tgName 2) mYes (mAnd (mCall m_is_number 1 [] (mCons (mVarF 2) mNil)) (mCh leD leD (mC (.int 0)) (mVarF 2) (mC (.int 4)))) [2]) mNil))) (mFun tupleD (mCons (mVarF 0) mNil)) (mC .non))))
theorem ok_plain_kinds (T : Tx mg g fd iA iF) : FnOk P w g.K mg base (L2.CX P w) 2 (g.F 29) (fd 29) P_plain_kinds (spF g 2 3 m_plain_kinds) :=
  okF T.F_plain_kinds sc_plain_kinds rfl rfl (by decide) fun cdv A outer s H E hr =>
    (pss_mCons (ps_mIf (PW.pt (pw_mOr (pt_mNot (pt_mTru rfl (pe_mIsa2 .list .tuple rfl (by rfl) T.z_isinstance (pe_mVarF (pv 0)) (tyP (by rfl) T.z_list (by decide +kernel)) (tyP (by rfl) T.z_tuple (by decide +kernel))) (by intro _; rfl))) (pw_or1 (pt_mCmp (op_neP hr.units) rop_ne (pe_mCallB call_len rop_len (by rfl) T.z_len (by decide +kernel) (pa_mCons (pe_mVarF (pv 0)) pa_mNil)) (pe_mVarF (pv 1)) (nomark _)))))
    (pss_mOne (ps_mRet pe_mNon))
    pss_mNil)
    (pss_mOne (ps_mRet (pe_mIfE (pt_mTru rfl (pe_mCallB (cr_all rfl) rop_all (by rfl) T.z_all (by decide +kernel) (pa_mCons (pe_mLc (own := [("kind", 2)]) rfl sc_plain_kinds.nd (pi_mSeq rfl (pe_mVarF (pv 0))) (blkOk_by (own := [("kind", 2)]) (N := N_plain_kinds) (sc := defScope s_plain_kinds) (by decide +kernel)) (gok_name 2) (by decide) (fun _ _ _ _ _ => (pg_name (i := 2) sc_plain_kinds.nd rfl (by first | exact Or.inl rfl | exact Or.inr rfl))) (fun _ _ _ _ _ => pts_mNil) (fun _ _ _ _ _ => (pe_mAnd rfl (pe_mCall (ok_is_number T) (hr.mono (by decide)) (by rfl) T.m_is_number T.F_is_number.kp T.b_is_number .nil passF (dfl := []) (fun _ _ => RpA.nil) hE_no (pa_mCons (pe_mVarF (pv 2)) pa_mNil) (len_cons len_nil) rfl) (pe_one (pe_mCh (OpR.or (op_le) (op_leP hr.units)) ROp.ord (OpR.or (op_le) (op_leP hr.units)) ROp.ord pe_mInt (pe_mVarF (pv 2)) pe_mInt))))) pa_mNil)) (by intro _; rfl)) (pe_mCallT call_tuple_of rop_tuple (by rfl) T.z_tuple (by decide +kernel) (pa_mCons (pe_mVarF (pv 0)) pa_mNil)) pe_mNon))))
def m_need_pair : MS := (mRet (mCall m_needed 1 [] (mCons (mCall m_plain_pair 3 [] (mCons (mVarF 0) mNil)) mNil)))
theorem ok_need_pair (T : Tx mg g fd iA iF) : FnOk P w g.K mg base (L2.CX P w) 4 (g.F 31) (fd 31) P_need_pair (spF g 1 1 m_need_pair) :=
  okF T.F_need_pair sc_need_pair rfl rfl (by decide) fun cdv A outer s H E hr =>
    have tk := takes_of (E := E) rfl rfl rfl rfl
    (pss_mOne (ps_mRet (pe_mCall (ok_needed T) (hr.mono (by decide)) (by rfl) T.m_needed T.F_needed.kp T.b_needed .nil (passT tk) (dfl := []) (fun _ _ => RpA.nil) hE_of (pa_mCons (pe_mCall (ok_plain_pair T) (hr.mono (by decide)) (by rfl) T.m_plain_pair T.F_plain_pair.kp T.b_plain_pair .nil (passT tk) (dfl := []) (fun _ _ => RpA.nil) hE_of (pa_mCons (pe_mVarF (pv 0)) pa_mNil) (len_cons len_nil) rfl) pa_mNil) (len_cons len_nil) rfl)))
def m_need_kind : MS := (mRet (mCall m_needed 1 [] (mCons (mCall m_plain_kind 1 [] (mCons (mVarF 0) mNil)) mNil)))
theorem ok_need_kind (T : Tx mg g fd iA iF) : FnOk P w g.K mg base (L2.CX P w) 4 (g.F 32) (fd 32) P_need_kind (spF g 1 1 m_need_kind) :=
  okF T.F_need_kind sc_need_kind rfl rfl (by decide) fun cdv A outer s H E hr =>
    have tk := takes_of (E := E) rfl rfl rfl rfl
    (pss_mOne (ps_mRet (pe_mCall (ok_needed T) (hr.mono (by decide)) (by rfl) T.m_needed T.F_needed.kp T.b_needed .nil (passT tk) (dfl := []) (fun _ _ => RpA.nil) hE_of (pa_mCons (pe_mCall (ok_plain_kind T) (hr.mono (by decide)) (by rfl) T.m_plain_kind T.F_plain_kind.kp T.b_plain_kind .nil (passT tk) (dfl := []) (fun _ _ => RpA.nil) hE_of (pa_mCons (pe_mVarF (pv 0)) pa_mNil) (len_cons len_nil) rfl) pa_mNil) (len_cons len_nil) rfl)))
def m_check_square : MS := (mIf (mB (mInB true (mVarF 1) 0))
    (mRaise1 1 (mVarF 1))
    mSkip)
theorem ok_check_square (T : Tx mg g fd iA iF) : FnOk P w g.K mg base (L2.CX P w) 3 (g.F 33) (fd 33) P_check_square (spF g 2 2 m_check_square) :=
  okF T.F_check_square sc_check_square rfl rfl (by decide) fun cdv A outer s H E hr =>
    have tk := takes_of (E := E) rfl rfl rfl rfl
    (pss_mOne (ps_mIf (pt_mInB (OpR.or (op_notInP hr.units) (op_notInDc (hu_of hr))) (pe_mVarF (pv 1)) (pv 0) (by with_unfolding_all rfl))
    (pss_mOne (ps_mRaise1 (c := 1) rfl rfl tk base_LE T.E_NoSquare T.i_NoSquare T.j_NoSquare (ok_init_NoSquare T) (hr.mono (by decide)) T.B_NoSquare (by rfl) T.n_NoSquare T.h_NoSquare T.f_NoSquare (pe_mVarF (pv 1))))
    pss_mNil))
def m_is_room : MS := (mRet (mCall m_as_told 2 [] (mCons (mCall m_plain_room 1 [] (mCons (mVarF 0) mNil)) (mCons (mVarF 0) mNil))))
theorem ok_is_room (T : Tx mg g fd iA iF) : FnOk P w g.K mg base (L2.CX P w) 7 (g.F 34) (fd 34) P_is_room (spF g 1 1 m_is_room) :=
  okF T.F_is_room sc_is_room rfl rfl (by decide) fun cdv A outer s H E hr =>
    have tk := takes_of (E := E) rfl rfl rfl rfl
    (pss_mOne (ps_mRet (pe_mCall (ok_as_told T) (hr.mono (by decide)) (by rfl) T.m_as_told T.F_as_told.kp T.b_as_told .nil (passT tk) (dfl := []) (fun _ _ => RpA.nil) hE_of (pa_mCons (pe_mCall (ok_plain_room T) (hr.mono (by decide)) (by rfl) T.m_plain_room T.F_plain_room.kp T.b_plain_room .nil (passT tk) (dfl := []) (fun _ _ => RpA.nil) hE_of (pa_mCons (pe_mVarF (pv 0)) pa_mNil) (len_cons len_nil) rfl) (pa_mCons (pe_mVarF (pv 0)) pa_mNil)) (len_cons (len_cons len_nil)) rfl)))
def m_is_square : MS := (mSeq (mAsg 0 (mCall m_need_room 1 [] (mCons (mVarF 0) mNil)))
    (mRet (mAnd (mCall m_as_told 2 [] (mCons (mCall m_plain_pair 3 [] (mCons (mVarF 1) mNil)) (mCons (mVarF 1) mNil))) (mInB false (mVarF 1) 0))))
theorem ok_is_square (T : Tx mg g fd iA iF) : FnOk P w g.K mg base (L2.CX P w) 8 (g.F 35) (fd 35) P_is_square (spF g 2 2 m_is_square) :=
  okF T.F_is_square sc_is_square rfl rfl (by decide) fun cdv A outer s H E hr =>
    have tk := takes_of (E := E) rfl rfl rfl rfl
    (pss_mCons (ps_mAsg (i := 0) sc_is_square.nd rfl (by first | exact Or.inl rfl | exact Or.inr rfl) (pe_mCall (ok_need_room T) (hr.mono (by decide)) (by rfl) T.m_need_room T.F_need_room.kp T.b_need_room .nil (passT tk) (dfl := []) (fun _ _ => RpA.nil) hE_of (pa_mCons (pe_mVarF (pv 0)) pa_mNil) (len_cons len_nil) rfl))
    (pss_mOne (ps_mRet (pe_mAnd rfl (pe_mCall (ok_as_told T) (hr.mono (by decide)) (by rfl) T.m_as_told T.F_as_told.kp T.b_as_told .nil (passT tk) (dfl := []) (fun _ _ => RpA.nil) hE_of (pa_mCons (pe_mCall (ok_plain_pair T) (hr.mono (by decide)) (by rfl) T.m_plain_pair T.F_plain_pair.kp T.b_plain_pair .nil (passT tk) (dfl := []) (fun _ _ => RpA.nil) hE_of (pa_mCons (pe_mVarF (pv 1)) pa_mNil) (len_cons len_nil) rfl) (pa_mCons (pe_mVarF (pv 1)) pa_mNil)) (len_cons (len_cons len_nil)) rfl) (pe_one (pe_mInB (OpR.or (op_inP hr.units) (op_inDc (hu_of hr))) (pe_mVarF (pv 1)) (pv 0) (by with_unfolding_all rfl)))))))
def m_beside : MS := (mSeq (mPar [0, 1] (mCons (mCall m_need_room 1 [] (mCons (mVarF 0) mNil)) (mCons (mCall m_need_pair 1 [] (mCons (mVarF 1) mNil)) mNil)))
    (mSeq (mDrop (mCall m_check_square 2 [] (mCons (mVarF 0) (mCons (mVarF 1) mNil))))
    (mRet (mCall m_within 3 [] (mCons (mVarF 0) (mCons (mCall m_pushed 6 [] (mCons (mVarF 1) (mCons (mC (.kt [(.kt [(.int (-1)), (.int 0)]), (.kt [(.int 0), (.int (-1))]), (.kt [(.int 0), (.int 1)]), (.kt [(.int 1), (.int 0)])])) mNil))) mNil))))))
theorem ok_beside (T : Tx mg g fd iA iF) : FnOk P w g.K mg base (L2.CX P w) 8 (g.F 36) (fd 36) P_beside (spF g 2 2 m_beside) :=
  okF T.F_beside sc_beside rfl rfl (by decide) fun cdv A outer s H E hr =>
    have tk := takes_of (E := E) rfl rfl rfl rfl
    (pss_mCons (ps_mPar (i := 0) (j := 1) rfl sc_beside.nd rfl rfl (by decide) rfl rfl (pa_mCons (pe_mCall (ok_need_room T) (hr.mono (by decide)) (by rfl) T.m_need_room T.F_need_room.kp T.b_need_room .nil (passT tk) (dfl := []) (fun _ _ => RpA.nil) hE_of (pa_mCons (pe_mVarF (pv 0)) pa_mNil) (len_cons len_nil) rfl) (pa_mCons (pe_mCall (ok_need_pair T) (hr.mono (by decide)) (by rfl) T.m_need_pair T.F_need_pair.kp T.b_need_pair .nil (passT tk) (dfl := []) (fun _ _ => RpA.nil) hE_of (pa_mCons (pe_mVarF (pv 1)) pa_mNil) (len_cons len_nil) rfl) pa_mNil)) (by rfl))
    (pss_mCons (ps_mDrop (pe_mCall (ok_check_square T) (hr.mono (by decide)) (by rfl) T.m_check_square T.F_check_square.kp T.b_check_square .nil (passT tk) (dfl := []) (fun _ _ => RpA.nil) hE_of (pa_mCons (pe_mVarF (pv 0)) (pa_mCons (pe_mVarF (pv 1)) pa_mNil)) (len_cons (len_cons len_nil)) rfl))
    (pss_mOne (ps_mRet (pe_mCall (ok_within T) (hr.mono (by decide)) (by rfl) T.m_within T.F_within.kp T.b_within .nil (passT tk) (dfl := []) (fun _ _ => RpA.nil) hE_of (pa_mCons (pe_mVarF (pv 0)) (pa_mCons (pe_mCall (ok_pushed T) (hr.mono (by decide)) (by rfl) T.m_pushed T.F_pushed.kp T.b_pushed .nil (passT tk) (dfl := []) (fun _ _ => RpA.nil) hE_of (pa_mCons (pe_mVarF (pv 1)) (pa_mCons (pe_mGt T.c_SIDES (by rfl)) pa_mNil)) (len_cons (len_cons len_nil)) rfl) pa_mNil)) (len_cons (len_cons len_nil)) rfl)))))
def m_around : MS := (mSeq (mPar [0, 1] (mCons (mCall m_need_room 1 [] (mCons (mVarF 0) mNil)) (mCons (mCall m_need_pair 1 [] (mCons (mVarF 1) mNil)) mNil)))
    (mSeq (mDrop (mCall m_check_square 2 [] (mCons (mVarF 0) (mCons (mVarF 1) mNil))))
    (mRet (mCall m_within 3 [] (mCons (mVarF 0) (mCons (mCall m_pushed 6 [] (mCons (mVarF 1) (mCons (mC (.kt [(.kt [(.int (-1)), (.int (-1))]), (.kt [(.int (-1)), (.int 0)]), (.kt [(.int (-1)), (.int 1)]), (.kt [(.int 0), (.int (-1))]), (.kt [(.int 0), (.int 1)]), (.kt [(.int 1), (.int (-1))]), (.kt [(.int 1), (.int 0)]), (.kt [(.int 1), (.int 1)])])) mNil))) mNil))))))
theorem ok_around (T : Tx mg g fd iA iF) : FnOk P w g.K mg base (L2.CX P w) 8 (g.F 37) (fd 37) P_around (spF g 2 2 m_around) :=
  okF T.F_around sc_around rfl rfl (by decide) fun cdv A outer s H E hr =>
    have tk := takes_of (E := E) rfl rfl rfl rfl
    (pss_mCons (ps_mPar (i := 0) (j := 1) rfl sc_around.nd rfl rfl (by decide) rfl rfl (pa_mCons (pe_mCall (ok_need_room T) (hr.mono (by decide)) (by rfl) T.m_need_room T.F_need_room.kp T.b_need_room .nil (passT tk) (dfl := []) (fun _ _ => RpA.nil) hE_of (pa_mCons (pe_mVarF (pv 0)) pa_mNil) (len_cons len_nil) rfl) (pa_mCons (pe_mCall (ok_need_pair T) (hr.mono (by decide)) (by rfl) T.m_need_pair T.F_need_pair.kp T.b_need_pair .nil (passT tk) (dfl := []) (fun _ _ => RpA.nil) hE_of (pa_mCons (pe_mVarF (pv 1)) pa_mNil) (len_cons len_nil) rfl) pa_mNil)) (by rfl))
    (pss_mCons (ps_mDrop (pe_mCall (ok_check_square T) (hr.mono (by decide)) (by rfl) T.m_check_square T.F_check_square.kp T.b_check_square .nil (passT tk) (dfl := []) (fun _ _ => RpA.nil) hE_of (pa_mCons (pe_mVarF (pv 0)) (pa_mCons (pe_mVarF (pv 1)) pa_mNil)) (len_cons (len_cons len_nil)) rfl))
    (pss_mOne (ps_mRet (pe_mCall (ok_within T) (hr.mono (by decide)) (by rfl) T.m_within T.F_within.kp T.b_within .nil (passT tk) (dfl := []) (fun _ _ => RpA.nil) hE_of (pa_mCons (pe_mVarF (pv 0)) (pa_mCons (pe_mCall (ok_pushed T) (hr.mono (by decide)) (by rfl) T.m_pushed T.F_pushed.kp T.b_pushed .nil (passT tk) (dfl := []) (fun _ _ => RpA.nil) hE_of (pa_mCons (pe_mVarF (pv 1)) (pa_mCons (pe_mGt T.c_AROUND (by rfl)) pa_mNil)) (len_cons (len_cons len_nil)) rfl) pa_mNil)) (len_cons (len_cons len_nil)) rfl)))))
def m_rim : MS := (mRet (mCall m_rim_of 3 [] (mCons (mCall m_need_room 1 [] (mCons (mVarF 0) mNil)) mNil)))
theorem ok_rim (T : Tx mg g fd iA iF) : FnOk P w g.K mg base (L2.CX P w) 11 (g.F 38) (fd 38) P_rim (spF g 1 1 m_rim) :=
  okF T.F_rim sc_rim rfl rfl (by decide) fun cdv A outer s H E hr =>
    have tk := takes_of (E := E) rfl rfl rfl rfl
    (pss_mOne (ps_mRet (pe_mCall (ok_rim_of T) (hr.mono (by decide)) (by rfl) T.m_rim_of T.F_rim_of.kp T.b_rim_of .nil (passT tk) (dfl := []) (fun _ _ => RpA.nil) hE_of (pa_mCons (pe_mCall (ok_need_room T) (hr.mono (by decide)) (by rfl) T.m_need_room T.F_need_room.kp T.b_need_room .nil (passT tk) (dfl := []) (fun _ _ => RpA.nil) hE_of (pa_mCons (pe_mVarF (pv 0)) pa_mNil) (len_cons len_nil) rfl) pa_mNil) (len_cons len_nil) rfl)))
def m_inner : MS := (mRet (mCall m_inner_of 4 [] (mCons (mCall m_need_room 1 [] (mCons (mVarF 0) mNil)) mNil)))
theorem ok_inner (T : Tx mg g fd iA iF) : FnOk P w g.K mg base (L2.CX P w) 10 (g.F 39) (fd 39) P_inner (spF g 1 1 m_inner) :=
  okF T.F_inner sc_inner rfl rfl (by decide) fun cdv A outer s H E hr =>
    have tk := takes_of (E := E) rfl rfl rfl rfl
    (pss_mOne (ps_mRet (pe_mCall (ok_inner_of T) (hr.mono (by decide)) (by rfl) T.m_inner_of T.F_inner_of.kp T.b_inner_of .nil (passT tk) (dfl := []) (fun _ _ => RpA.nil) hE_of (pa_mCons (pe_mCall (ok_need_room T) (hr.mono (by decide)) (by rfl) T.m_need_room T.F_need_room.kp T.b_need_room .nil (passT tk) (dfl := []) (fun _ _ => RpA.nil) hE_of (pa_mCons (pe_mVarF (pv 0)) pa_mNil) (len_cons len_nil) rfl) pa_mNil) (len_cons len_nil) rfl)))
def m_about : MS := (mSeq (mPar [0, 1] (mCons (mCall m_need_room 1 [] (mCons (mVarF 0) mNil)) (mCons (mCall m_need_pair 1 [] (mCons (mVarF 1) mNil)) mNil)))
    (mSeq (mAsg 2 (mCall m_four_about 3 [] (mCons (mVarF 1) mNil)))
    (mSeq (mIf (mB (mBin ltD (mFun lenD (mCons (mCall m_within 3 [] (mCons (mVarF 0) (mCons (mVarF 2) mNil))) mNil)) (mC (.int 4))))
    (mRaise1 0 (mVarF 1))
    mSkip)
    (mRet (mVarF 2)))))
theorem ok_about (T : Tx mg g fd iA iF) : FnOk P w g.K mg base (L2.CX P w) 8 (g.F 41) (fd 41) P_about (spF g 2 3 m_about) :=
  okF T.F_about sc_about rfl rfl (by decide) fun cdv A outer s H E hr =>
    have tk := takes_of (E := E) rfl rfl rfl rfl
    (pss_mCons (ps_mPar (i := 0) (j := 1) rfl sc_about.nd rfl rfl (by decide) rfl rfl (pa_mCons (pe_mCall (ok_need_room T) (hr.mono (by decide)) (by rfl) T.m_need_room T.F_need_room.kp T.b_need_room .nil (passT tk) (dfl := []) (fun _ _ => RpA.nil) hE_of (pa_mCons (pe_mVarF (pv 0)) pa_mNil) (len_cons len_nil) rfl) (pa_mCons (pe_mCall (ok_need_pair T) (hr.mono (by decide)) (by rfl) T.m_need_pair T.F_need_pair.kp T.b_need_pair .nil (passT tk) (dfl := []) (fun _ _ => RpA.nil) hE_of (pa_mCons (pe_mVarF (pv 1)) pa_mNil) (len_cons len_nil) rfl) pa_mNil)) (by rfl))
    (pss_mCons (ps_mAsg (i := 2) sc_about.nd rfl (by first | exact Or.inl rfl | exact Or.inr rfl) (pe_mCall (ok_four_about T) (hr.mono (by decide)) (by rfl) T.m_four_about T.F_four_about.kp T.b_four_about .nil (passT tk) (dfl := []) (fun _ _ => RpA.nil) hE_of (pa_mCons (pe_mVarF (pv 1)) pa_mNil) (len_cons len_nil) rfl))
    (pss_mCons (ps_mIf (pt_mCmp (OpR.or (op_lt) (op_ltP hr.units)) ROp.ord (pe_mCallB call_len rop_len (by rfl) T.z_len (by decide +kernel) (pa_mCons (pe_mCall (ok_within T) (hr.mono (by decide)) (by rfl) T.m_within T.F_within.kp T.b_within .nil (passT tk) (dfl := []) (fun _ _ => RpA.nil) hE_of (pa_mCons (pe_mVarF (pv 0)) (pa_mCons (pe_mVarF (pv 2)) pa_mNil)) (len_cons (len_cons len_nil)) rfl) pa_mNil)) pe_mInt (nomark _))
    (pss_mOne (ps_mRaise1 (c := 0) rfl rfl tk base_LE T.E_NoPoint T.i_NoPoint T.j_NoPoint (ok_init_NoPoint T) (hr.mono (by decide)) T.B_NoPoint (by rfl) T.n_NoPoint T.h_NoPoint T.f_NoPoint (pe_mVarF (pv 1))))
    pss_mNil)
    (pss_mOne (ps_mRet (pe_mVarF (pv 2)))))))
def m_sizes : MS := (mSeq (mAsg 0 (mCall m_need_room 1 [] (mCons (mVarF 0) mNil)))
    (mRet (mTup (mCons (mFun lenD (mCons (mVarF 0) mNil)) (mCons (mFun lenD (mCons (mCall m_rim_of 3 [] (mCons (mVarF 0) mNil)) mNil)) (mCons (mFun lenD (mCons (mCall m_points_of 4 [] (mCons (mVarF 0) mNil)) mNil)) mNil))))))
theorem ok_sizes (T : Tx mg g fd iA iF) : FnOk P w g.K mg base (L2.CX P w) 11 (g.F 42) (fd 42) P_sizes (spF g 1 1 m_sizes) :=
  okF T.F_sizes sc_sizes rfl rfl (by decide) fun cdv A outer s H E hr =>
    have tk := takes_of (E := E) rfl rfl rfl rfl
    (pss_mCons (ps_mAsg (i := 0) sc_sizes.nd rfl (by first | exact Or.inl rfl | exact Or.inr rfl) (pe_mCall (ok_need_room T) (hr.mono (by decide)) (by rfl) T.m_need_room T.F_need_room.kp T.b_need_room .nil (passT tk) (dfl := []) (fun _ _ => RpA.nil) hE_of (pa_mCons (pe_mVarF (pv 0)) pa_mNil) (len_cons len_nil) rfl))
    (pss_mOne (ps_mRet (pe_mTup (pa_mCons (pe_mCallB call_len rop_len (by rfl) T.z_len (by decide +kernel) (pa_mCons (pe_mVarF (pv 0)) pa_mNil)) (pa_mCons (pe_mCallB call_len rop_len (by rfl) T.z_len (by decide +kernel) (pa_mCons (pe_mCall (ok_rim_of T) (hr.mono (by decide)) (by rfl) T.m_rim_of T.F_rim_of.kp T.b_rim_of .nil (passT tk) (dfl := []) (fun _ _ => RpA.nil) hE_of (pa_mCons (pe_mVarF (pv 0)) pa_mNil) (len_cons len_nil) rfl) pa_mNil)) (pa_mCons (pe_mCallB call_len rop_len (by rfl) T.z_len (by decide +kernel) (pa_mCons (pe_mCall (ok_points_of T) (hr.mono (by decide)) (by rfl) T.m_points_of T.F_points_of.kp T.b_points_of .nil (passT tk) (dfl := []) (fun _ _ => RpA.nil) hE_of (pa_mCons (pe_mVarF (pv 0)) pa_mNil) (len_cons len_nil) rfl) pa_mNil)) pa_mNil)))))))
def m_lot_from : MS := (mSeq (mPut 3 (mVarF 0) (mC (.bl true)))
    (mSeq (mSetF 4 (fLst (mCons (mVarF 0) mNil)))
    (mSeq (mSetF 5 (fLst (mCons (mVarF 0) mNil)))
    (mSeq (whileS (mTruB 5) (mFor (miSeq (mCall m_pushed 6 [] (mCons (mPop 5) (mCons (mVarF 1) mNil)))) (tgName 6) (mIf (mAndT (mB (mInB false (mVarF 6) 2)) (mB (mInB true (mVarF 6) 3)))
    (mSeq (mPut 3 (mVarF 6) (mC (.bl true)))
    (mSeq (mDrop (mApp 4 (mVarF 6)))
    (mDrop (mApp 5 (mVarF 6)))))
    mSkip)) 1000)
    (mRet (mVarF 4))))))
theorem ok_lot_from (T : Tx mg g fd iA iF) : FnOk P w g.K mg base (L2.CX P w) 2 (g.F 43) (fd 43) P_lot_from (spF g 4 7 m_lot_from) :=
  okF T.F_lot_from sc_lot_from rfl rfl (by decide) fun cdv A outer s H E hr =>
    have tk := takes_of (E := E) rfl rfl rfl rfl
    (pss_mCons (ps_mPut (hu_of hr) (pv 3) (pe_mVarF (pv 0)) pe_mBl)
    (pss_mCons (ps_mSetF (i := 4) sc_lot_from.nd rfl (by first | exact Or.inl rfl | exact Or.inr rfl) (pe_fLst (pa_mCons (pe_mVarF (pv 0)) pa_mNil)))
    (pss_mCons (ps_mSetF (i := 5) sc_lot_from.nd rfl (by first | exact Or.inl rfl | exact Or.inr rfl) (pe_fLst (pa_mCons (pe_mVarF (pv 0)) pa_mNil)))
    (pss_mCons (ps_mWhile 1000 (passes_of rfl) (pt_mTruB rfl (pv 5)) (pss_mOne (ps_mFor (passes_of rfl) rfl (pi_mSeq rfl (pe_mCall (ok_pushed T) (hr.mono (by decide)) (by rfl) T.m_pushed T.F_pushed.kp T.b_pushed .nil (passT tk) (dfl := []) (fun _ _ => RpA.nil) hE_of (pa_mCons (pe_mPop rfl (pv 5)) (pa_mCons (pe_mVarF (pv 1)) pa_mNil)) (len_cons (len_cons len_nil)) rfl)) (pg_name (i := 6) sc_lot_from.nd rfl (by first | exact Or.inl rfl | exact Or.inr rfl)) (gok_name 6) (pss_mOne (ps_mIf (PW.pt (pw_mAnd (pt_mInB (OpR.or (op_inP hr.units) (op_inDc (hu_of hr))) (pe_mVarF (pv 6)) (pv 2) (by with_unfolding_all rfl)) (pw_and1 (pt_mInB (OpR.or (op_notInP hr.units) (op_notInDc (hu_of hr))) (pe_mVarF (pv 6)) (pv 3) (by with_unfolding_all rfl)))))
    (pss_mCons (ps_mPut (hu_of hr) (pv 3) (pe_mVarF (pv 6)) pe_mBl)
    (pss_mCons (ps_mDrop (pe_mApp rfl (pv 4) (pe_mVarF (pv 6))))
    (pss_mOne (ps_mDrop (pe_mApp rfl (pv 5) (pe_mVarF (pv 6)))))))
    pss_mNil)))))
    (pss_mOne (ps_mRet (pe_mVarF (pv 4))))))))
def m_lots : MS := (mSeq (mNew 2 (.dT []))
    (mSeq (mNew 3 (.l []))
    (mSeq (mForA 0 (tgName 4) (mIf (mB (mInB true (mVarF 4) 2))
    (mDrop (mApp 3 (mFun tupleD (mCons (mFun sortD (mCons (mCallR m_lot_from 7 [] (rDat (mVarF 4) (rDat (mVarF 1) (rDat (mVarF 0) (rRef 2 rNil))))) mNil)) mNil))))
    mSkip))
    (mRet (mVarF 3)))))
theorem ok_lots (T : Tx mg g fd iA iF) : FnOk P w g.K mg base (L2.CX P w) 3 (g.F 44) (fd 44) P_lots (spF g 2 5 m_lots) :=
  okF T.F_lots sc_lots rfl rfl (by decide) fun cdv A outer s H E hr =>
    have tk := takes_of (E := E) rfl rfl rfl rfl
    (pss_mCons (ps_mNewT (i := 2) sc_lots.nd rfl (by first | exact Or.inl rfl | exact Or.inr rfl))
    (pss_mCons (ps_mNewL (i := 3) sc_lots.nd rfl (by first | exact Or.inl rfl | exact Or.inr rfl))
    (pss_mCons (ps_mForA (passes_of rfl) rfl (pi_mSeq rfl (pe_mVarF (pv 0))) (pv 0) (pg_name (i := 4) sc_lots.nd rfl (by first | exact Or.inl rfl | exact Or.inr rfl)) (gok_name 4) (pss_mOne (ps_mIf (pt_mInB (OpR.or (op_notInP hr.units) (op_notInDc (hu_of hr))) (pe_mVarF (pv 4)) (pv 2) (by with_unfolding_all rfl))
    (pss_mOne (ps_mDrop (pe_mApp rfl (pv 3) (pe_mCallT call_tuple_of rop_tuple (by rfl) T.z_tuple (by decide +kernel) (pa_mCons (pe_mCallB (cr_sortDt rfl hr.units) rop_sort (by rfl) T.z_sorted (by decide +kernel) (pa_mCons (pe_mCallR (ok_lot_from T) (hr.mono (by decide)) (by rfl) T.m_lot_from T.F_lot_from.kp T.b_lot_from .nil (passT tk) (dfl := []) (fun _ _ => RpA.nil) hE_of (pa_rDat (pe_mVarF (pv 4)) (pa_rDat (pe_mVarF (pv 1)) (pa_rDat (pe_mVarF (pv 0)) (pa_rRef (pv 2) pa_rNil)))) (lenR_dat (lenR_dat (lenR_dat (lenR_ref lenR_nil)))) rfl) pa_mNil)) pa_mNil)))))
    pss_mNil)))
    (pss_mOne (ps_mRet (pe_mVarF (pv 3)))))))
def m_pieces : MS := (mRet (mFun tupleD (mCons (mCall m_lots 5 [] (mCons (mCall m_table_of 2 [] (mCons (mCall m_need_room 1 [] (mCons (mVarF 0) mNil)) mNil)) (mCons (mC (.kt [(.kt [(.int (-1)), (.int 0)]), (.kt [(.int 0), (.int (-1))]), (.kt [(.int 0), (.int 1)]), (.kt [(.int 1), (.int 0)])])) mNil))) mNil)))
theorem ok_pieces (T : Tx mg g fd iA iF) : FnOk P w g.K mg base (L2.CX P w) 8 (g.F 45) (fd 45) P_pieces (spF g 1 1 m_pieces) :=
  okF T.F_pieces sc_pieces rfl rfl (by decide) fun cdv A outer s H E hr =>
    have tk := takes_of (E := E) rfl rfl rfl rfl
    (pss_mOne (ps_mRet (pe_mCallT call_tuple_of rop_tuple (by rfl) T.z_tuple (by decide +kernel) (pa_mCons (pe_mCall (ok_lots T) (hr.mono (by decide)) (by rfl) T.m_lots T.F_lots.kp T.b_lots .nil (passT tk) (dfl := []) (fun _ _ => RpA.nil) hE_of (pa_mCons (pe_mCall (ok_table_of T) (hr.mono (by decide)) (by rfl) T.m_table_of T.F_table_of.kp T.b_table_of .nil (passT tk) (dfl := []) (fun _ _ => RpA.nil) hE_of (pa_mCons (pe_mCall (ok_need_room T) (hr.mono (by decide)) (by rfl) T.m_need_room T.F_need_room.kp T.b_need_room .nil (passT tk) (dfl := []) (fun _ _ => RpA.nil) hE_of (pa_mCons (pe_mVarF (pv 0)) pa_mNil) (len_cons len_nil) rfl) pa_mNil) (len_cons len_nil) rfl) (pa_mCons (pe_mGt T.c_SIDES (by rfl)) pa_mNil)) (len_cons (len_cons len_nil)) rfl) pa_mNil))))
def m_drawn_in : MS := (mSeq (mNew 1 (.dK []))
    (mSeq (mAsg 2 (mC (.int 0)))
    (mSeq (mFor (miSeq (mFun sortSetD (mCons (mVarF 0) mNil))) (tgName 3) (mSeq (mAug (fun i j => i + j) 2 (mIfE (mOrT (mB (mInB false (mBin subD (mVarF 3) (mC (.int 1))) 1)) (mNotT (mTruB 1))) (mC (.int 1)) (mC (.int 2))))
    (mPut 1 (mVarF 3) (mVarF 2))))
    (mRet (mVarF 1)))))
theorem ok_drawn_in (T : Tx mg g fd iA iF) : FnOk P w g.K mg base (L2.CX P w) 1 (g.F 46) (fd 46) P_drawn_in (spF g 1 4 m_drawn_in) :=
  okF T.F_drawn_in sc_drawn_in rfl rfl (by decide) fun cdv A outer s H E hr =>
    (pss_mCons (ps_mNewK (i := 1) sc_drawn_in.nd rfl (by first | exact Or.inl rfl | exact Or.inr rfl))
    (pss_mCons (ps_mAsg (i := 2) sc_drawn_in.nd rfl (by first | exact Or.inl rfl | exact Or.inr rfl) pe_mInt)
    (pss_mCons (ps_mFor (passes_of rfl) rfl (pi_mSeq rfl (pe_mSortSet rfl rfl (by rfl) T.z_sorted (by rfl) T.z_set (pe_mVarF (pv 0)))) (pg_name (i := 3) sc_drawn_in.nd rfl (by first | exact Or.inl rfl | exact Or.inr rfl)) (gok_name 3) (pss_mCons (ps_mAug (i := 2) ip_add sc_drawn_in.nd rfl (by first | exact Or.inl rfl | exact Or.inr rfl) (pe_mIfE (PW.pt (pw_mOr (pt_mInB (OpR.or (op_inP hr.units) (op_inDc (hu_of hr))) (pe_mBin op_sub rop_sub (pe_mVarF (pv 3)) pe_mInt) (pv 1) (by with_unfolding_all rfl)) (pw_or1 (pt_mNot (pt_mTruB rfl (pv 1)))))) pe_mInt pe_mInt))
    (pss_mOne (ps_mPut (hu_of hr) (pv 1) (pe_mVarF (pv 3)) (pe_mVarF (pv 2))))))
    (pss_mOne (ps_mRet (pe_mVarF (pv 1)))))))
def m_pillars : MS := (mSeq (mAsg 0 (mCall m_need_room 1 [] (mCons (mVarF 0) mNil)))
    (mSeq (mTo (tgTL [1, 2]) (mTup (mCons (mCall m_drawn_in 4 [] (mCons (mLc (miSeq (mVarF 0)) (tgTup [7, 9]) mYes (mVarF 7) [7, 9]) mNil)) (mCons (mCall m_drawn_in 4 [] (mCons (mLc (miSeq (mVarF 0)) (tgTup [9, 8]) mYes (mVarF 8) [9, 8]) mNil)) mNil))))
    (mSeq (mAsg 3 (mDc dkT (miSeq (mVarF 0)) (tgTup [7, 8]) mYes (mTup (mCons (mBin ixD (mVarF 1) (mVarF 7)) (mCons (mBin ixD (mVarF 2) (mVarF 8)) mNil))) (mC (.bl true)) [7, 8]))
    (mSeq (mTo (tgTL [4, 5]) (mTup (mCons (mBin addD (mBin ixD (mVarF 1) (mBin ixD (mBin ixD (mVarF 0) (mNeg (mC (.int 1)))) (mC (.int 0)))) (mC (.int 2))) (mCons (mBin addD (mFun maxD (mCons (mDVals (mVarF 2)) mNil)) (mC (.int 2))) mNil))))
    (mSeq (mAsg 6 (mDc2 dkT (miFun rangeF (mCons (mVarF 4) mNil)) (tgName 7) mYes (miFun rangeF (mCons (mVarF 5) mNil)) (tgName 8) (mB (mInB true (mTup (mCons (mVarF 7) (mCons (mVarF 8) mNil))) 3)) (mTup (mCons (mVarF 7) (mCons (mVarF 8) mNil))) (mC (.bl true)) [7, 8] [8]))
    (mRet (mBin subD (mFun lenD (mCons (mCall m_lots 5 [] (mCons (mVarF 6) (mCons (mC (.kt [(.kt [(.int (-1)), (.int (-1))]), (.kt [(.int (-1)), (.int 0)]), (.kt [(.int (-1)), (.int 1)]), (.kt [(.int 0), (.int (-1))]), (.kt [(.int 0), (.int 1)]), (.kt [(.int 1), (.int (-1))]), (.kt [(.int 1), (.int 0)]), (.kt [(.int 1), (.int 1)])])) mNil))) mNil)) (mC (.int 1)))))))))
theorem ok_pillars (T : Tx mg g fd iA iF) : FnOk P w g.K mg base (L2.CX P w) 8 (g.F 47) (fd 47) P_pillars (spF g 1 10 m_pillars) :=
  okF T.F_pillars sc_pillars rfl rfl (by decide) fun cdv A outer s H E hr =>
    have tk := takes_of (E := E) rfl rfl rfl rfl
    (pss_mCons (ps_mAsg (i := 0) sc_pillars.nd rfl (by first | exact Or.inl rfl | exact Or.inr rfl) (pe_mCall (ok_need_room T) (hr.mono (by decide)) (by rfl) T.m_need_room T.F_need_room.kp T.b_need_room .nil (passT tk) (dfl := []) (fun _ _ => RpA.nil) hE_of (pa_mCons (pe_mVarF (pv 0)) pa_mNil) (len_cons len_nil) rfl))
    (pss_mCons (ps_mTo (pe_mTup (pa_mCons (pe_mCall (ok_drawn_in T) (hr.mono (by decide)) (by rfl) T.m_drawn_in T.F_drawn_in.kp T.b_drawn_in .nil (passT tk) (dfl := []) (fun _ _ => RpA.nil) hE_of (pa_mCons (pe_mLc (own := [("x", 7), ("_", 9)]) rfl sc_pillars.nd (pi_mSeq rfl (pe_mVarF (pv 0))) (blkOk_by (own := [("x", 7), ("_", 9)]) (N := N_pillars) (sc := defScope s_pillars) (by decide +kernel)) (gok_tup [7, 9]) (by decide) (fun _ _ _ _ _ => (pg_tup (by rfl) (pgs_cons (pg_name (i := 7) sc_pillars.nd rfl (by first | exact Or.inl rfl | exact Or.inr rfl)) (pgs_cons (pg_name (i := 9) sc_pillars.nd rfl (by first | exact Or.inl rfl | exact Or.inr rfl)) pgs_nil)))) (fun _ _ _ _ _ => pts_mNil) (fun _ _ _ _ _ => (pe_mVarF (pv 7)))) pa_mNil) (len_cons len_nil) rfl) (pa_mCons (pe_mCall (ok_drawn_in T) (hr.mono (by decide)) (by rfl) T.m_drawn_in T.F_drawn_in.kp T.b_drawn_in .nil (passT tk) (dfl := []) (fun _ _ => RpA.nil) hE_of (pa_mCons (pe_mLc (own := [("_", 9), ("y", 8)]) rfl sc_pillars.nd (pi_mSeq rfl (pe_mVarF (pv 0))) (blkOk_by (own := [("_", 9), ("y", 8)]) (N := N_pillars) (sc := defScope s_pillars) (by decide +kernel)) (gok_tup [9, 8]) (by decide) (fun _ _ _ _ _ => (pg_tup (by rfl) (pgs_cons (pg_name (i := 9) sc_pillars.nd rfl (by first | exact Or.inl rfl | exact Or.inr rfl)) (pgs_cons (pg_name (i := 8) sc_pillars.nd rfl (by first | exact Or.inl rfl | exact Or.inr rfl)) pgs_nil)))) (fun _ _ _ _ _ => pts_mNil) (fun _ _ _ _ _ => (pe_mVarF (pv 8)))) pa_mNil) (len_cons len_nil) rfl) pa_mNil))) (pg_tl (by rfl) (pgs_cons (pg_name (i := 1) sc_pillars.nd rfl (by first | exact Or.inl rfl | exact Or.inr rfl)) (pgs_cons (pg_name (i := 2) sc_pillars.nd rfl (by first | exact Or.inl rfl | exact Or.inr rfl)) pgs_nil))) (gok_tl [1, 2]))
    (pss_mCons (ps_mAsg (i := 3) sc_pillars.nd rfl (by first | exact Or.inl rfl | exact Or.inr rfl) (pe_mDc (DK := dkT) (own := [("x", 7), ("y", 8)]) hr.units0 rfl sc_pillars.nd (pi_mSeq rfl (pe_mVarF (pv 0))) (blkOk_by (own := [("x", 7), ("y", 8)]) (N := N_pillars) (sc := defScope s_pillars) (by decide +kernel)) (gok_tup [7, 8]) (by decide) (fun _ _ _ _ _ => (pg_tup (by rfl) (pgs_cons (pg_name (i := 7) sc_pillars.nd rfl (by first | exact Or.inl rfl | exact Or.inr rfl)) (pgs_cons (pg_name (i := 8) sc_pillars.nd rfl (by first | exact Or.inl rfl | exact Or.inr rfl)) pgs_nil)))) (fun _ _ _ _ _ => pts_mNil) (fun _ _ _ _ _ => (pe_mTup (pa_mCons (pe_mIx rfl (hu_of hr) (pe_mVarF (pv 1)) (pe_mVarF (pv 7)) (fun _ _ => rfl) (fun _ _ => rfl)) (pa_mCons (pe_mIx rfl (hu_of hr) (pe_mVarF (pv 2)) (pe_mVarF (pv 8)) (fun _ _ => rfl) (fun _ _ => rfl)) pa_mNil)))) (fun _ _ _ _ _ => pe_mBl)))
    (pss_mCons (ps_mTo (pe_mTup (pa_mCons (pe_mBin op_addU rop_add (pe_mIx rfl (hu_of hr) (pe_mVarF (pv 1)) (pe_mIx rfl (hu_of hr) (pe_mIx rfl (hu_of hr) (pe_mVarF (pv 0)) (pe_mNeg pe_mInt) (fun _ _ => rfl) (fun _ _ => rfl)) pe_mInt (fun _ _ => rfl) (fun _ _ => rfl)) (fun _ _ => rfl) (fun _ _ => rfl)) pe_mInt) (pa_mCons (pe_mBin op_addU rop_add (pe_mCallB (cr_max rfl) rop_max (by rfl) T.z_max (by decide +kernel) (pa_mCons (pe_mDVals rfl (pe_mVarF (pv 2)) (by rfl) T.z_list) pa_mNil)) pe_mInt) pa_mNil))) (pg_tl (by rfl) (pgs_cons (pg_name (i := 4) sc_pillars.nd rfl (by first | exact Or.inl rfl | exact Or.inr rfl)) (pgs_cons (pg_name (i := 5) sc_pillars.nd rfl (by first | exact Or.inl rfl | exact Or.inr rfl)) pgs_nil))) (gok_tl [4, 5]))
    (pss_mCons (ps_mDc2 (DK := dkT) (own := [("x", 7), ("y", 8)]) (vs1 := [8]) (i := 6) hr.units0 rfl sc_pillars.nd rfl rfl (sw_trueE rfl rfl rfl (by decide +kernel)) (pi_mRange (by rfl) T.z_range (pa_mCons (pe_mVarF (pv 4)) pa_mNil)) (blkOk_by (own := [("x", 7), ("y", 8)]) (N := N_pillars) (sc := defScope s_pillars) (by decide +kernel)) (by decide) (gok_name 7) (by decide) (gok_name 8) (by decide) (fun _ _ _ _ _ => (pg_name (i := 7) sc_pillars.nd rfl (by first | exact Or.inl rfl | exact Or.inr rfl))) (fun _ _ _ _ _ => pts_mNil) (fun _ _ _ _ _ => (pi_mRange (by rfl) T.z_range (pa_mCons (pe_mVarF (pv 5)) pa_mNil))) (fun _ _ _ _ _ => (pg_name (i := 8) sc_pillars.nd rfl (by first | exact Or.inl rfl | exact Or.inr rfl))) (fun _ _ _ _ _ => (pts_one (pt_mInB (OpR.or (op_notInP hr.units) (op_notInDc (hu_of hr))) (pe_mTup (pa_mCons (pe_mVarF (pv 7)) (pa_mCons (pe_mVarF (pv 8)) pa_mNil))) (pv 3) (by with_unfolding_all rfl)))) (fun _ _ _ _ _ => (pe_mTup (pa_mCons (pe_mVarF (pv 7)) (pa_mCons (pe_mVarF (pv 8)) pa_mNil)))) (fun _ _ _ _ _ => pe_mBl))
    (pss_mOne (ps_mRet (pe_mBin op_sub rop_sub (pe_mCallB call_len rop_len (by rfl) T.z_len (by decide +kernel) (pa_mCons (pe_mCall (ok_lots T) (hr.mono (by decide)) (by rfl) T.m_lots T.F_lots.kp T.b_lots .nil (passT tk) (dfl := []) (fun _ _ => RpA.nil) hE_of (pa_mCons (pe_mVarF (pv 6)) (pa_mCons (pe_mGt T.c_AROUND (by rfl)) pa_mNil)) (len_cons (len_cons len_nil)) rfl) pa_mNil)) pe_mInt))))))))
def m_box_of : MS := (mSeq (mAsg 0 (mCall m_need_room 1 [] (mCons (mVarF 0) mNil)))
    (mSeq (mAsg 1 (mLc (miSeq (mVarF 0)) (tgTup [2, 3]) mYes (mVarF 3) [2, 3]))
    (mRet (mTup (mCons (mTup (mCons (mBin ixD (mBin ixD (mVarF 0) (mC (.int 0))) (mC (.int 0))) (mCons (mFun minD (mCons (mVarF 1) mNil)) mNil))) (mCons (mTup (mCons (mBin ixD (mBin ixD (mVarF 0) (mNeg (mC (.int 1)))) (mC (.int 0))) (mCons (mFun maxD (mCons (mVarF 1) mNil)) mNil))) mNil))))))
theorem ok_box_of (T : Tx mg g fd iA iF) : FnOk P w g.K mg base (L2.CX P w) 8 (g.F 48) (fd 48) P_box_of (spF g 1 4 m_box_of) :=
  okF T.F_box_of sc_box_of rfl rfl (by decide) fun cdv A outer s H E hr =>
    have tk := takes_of (E := E) rfl rfl rfl rfl
    (pss_mCons (ps_mAsg (i := 0) sc_box_of.nd rfl (by first | exact Or.inl rfl | exact Or.inr rfl) (pe_mCall (ok_need_room T) (hr.mono (by decide)) (by rfl) T.m_need_room T.F_need_room.kp T.b_need_room .nil (passT tk) (dfl := []) (fun _ _ => RpA.nil) hE_of (pa_mCons (pe_mVarF (pv 0)) pa_mNil) (len_cons len_nil) rfl))
    (pss_mCons (ps_mLc (own := [("_", 2), ("y", 3)]) (i := 1) rfl sc_box_of.nd rfl rfl (sw_true rfl rfl rfl (by decide +kernel)) (pi_mSeq rfl (pe_mVarF (pv 0))) (blkOk_by (own := [("_", 2), ("y", 3)]) (N := N_box_of) (sc := defScope s_box_of) (by decide +kernel)) (gok_tup [2, 3]) (by decide) (fun _ _ _ _ _ => (pg_tup (by rfl) (pgs_cons (pg_name (i := 2) sc_box_of.nd rfl (by first | exact Or.inl rfl | exact Or.inr rfl)) (pgs_cons (pg_name (i := 3) sc_box_of.nd rfl (by first | exact Or.inl rfl | exact Or.inr rfl)) pgs_nil)))) (fun _ _ _ _ _ => pts_mNil) (fun _ _ _ _ _ => (pe_mVarF (pv 3))))
    (pss_mOne (ps_mRet (pe_mTup (pa_mCons (pe_mTup (pa_mCons (pe_mIx rfl (hu_of hr) (pe_mIx rfl (hu_of hr) (pe_mVarF (pv 0)) pe_mInt (fun _ _ => rfl) (fun _ _ => rfl)) pe_mInt (fun _ _ => rfl) (fun _ _ => rfl)) (pa_mCons (pe_mCallB (cr_min rfl) rop_min (by rfl) T.z_min (by decide +kernel) (pa_mCons (pe_mVarF (pv 1)) pa_mNil)) pa_mNil))) (pa_mCons (pe_mTup (pa_mCons (pe_mIx rfl (hu_of hr) (pe_mIx rfl (hu_of hr) (pe_mVarF (pv 0)) (pe_mNeg pe_mInt) (fun _ _ => rfl) (fun _ _ => rfl)) pe_mInt (fun _ _ => rfl) (fun _ _ => rfl)) (pa_mCons (pe_mCallB (cr_max rfl) rop_max (by rfl) T.z_max (by decide +kernel) (pa_mCons (pe_mVarF (pv 1)) pa_mNil)) pa_mNil))) pa_mNil)))))))
def m_boxed : MS := (mSeq (mTo (tgTL [0, 1]) (mTup (mCons (mCall m_needed 1 [] (mCons (mCall m_plain_number 3 [.non] (mCons (mVarF 0) (mCons (mC (.int 1)) mNil))) mNil)) (mCons (mCall m_needed 1 [] (mCons (mCall m_plain_number 3 [.non] (mCons (mVarF 1) (mCons (mC (.int 1)) mNil))) mNil)) mNil))))
    (mRet (mFun tupleD (mCons (mLc2 (miFun rangeF (mCons (mVarF 1) mNil)) (tgName 2) mYes (miFun rangeF (mCons (mVarF 0) mNil)) (tgName 3) mYes (mTup (mCons (mVarF 2) (mCons (mVarF 3) mNil))) [2, 3] [3]) mNil))))
theorem ok_boxed (T : Tx mg g fd iA iF) : FnOk P w g.K mg base (L2.CX P w) 4 (g.F 49) (fd 49) P_boxed (spF g 2 4 m_boxed) :=
  okF T.F_boxed sc_boxed rfl rfl (by decide) fun cdv A outer s H E hr =>
    have tk := takes_of (E := E) rfl rfl rfl rfl
    (pss_mCons (ps_mTo (pe_mTup (pa_mCons (pe_mCall (ok_needed T) (hr.mono (by decide)) (by rfl) T.m_needed T.F_needed.kp T.b_needed .nil (passT tk) (dfl := []) (fun _ _ => RpA.nil) hE_of (pa_mCons (pe_mCallD (ok_plain_number T) (hr.mono (by decide)) (by rfl) T.m_plain_number T.F_plain_number.kp T.b_plain_number_0 (passT tk) (dfl := [.non]) (fun _ _ => (RpA.cons .non RpA.nil)) hE_of (pa_mCons (pe_mVarF (pv 0)) (pa_mCons pe_mInt pa_mNil)) (lenDf (len_cons (len_cons len_nil)) rfl) rfl) pa_mNil) (len_cons len_nil) rfl) (pa_mCons (pe_mCall (ok_needed T) (hr.mono (by decide)) (by rfl) T.m_needed T.F_needed.kp T.b_needed .nil (passT tk) (dfl := []) (fun _ _ => RpA.nil) hE_of (pa_mCons (pe_mCallD (ok_plain_number T) (hr.mono (by decide)) (by rfl) T.m_plain_number T.F_plain_number.kp T.b_plain_number_0 (passT tk) (dfl := [.non]) (fun _ _ => (RpA.cons .non RpA.nil)) hE_of (pa_mCons (pe_mVarF (pv 1)) (pa_mCons pe_mInt pa_mNil)) (lenDf (len_cons (len_cons len_nil)) rfl) rfl) pa_mNil) (len_cons len_nil) rfl) pa_mNil))) (pg_tl (by rfl) (pgs_cons (pg_name (i := 0) sc_boxed.nd rfl (by first | exact Or.inl rfl | exact Or.inr rfl)) (pgs_cons (pg_name (i := 1) sc_boxed.nd rfl (by first | exact Or.inl rfl | exact Or.inr rfl)) pgs_nil))) (gok_tl [0, 1]))
    (pss_mOne (ps_mRet (pe_mCallT call_tuple_of rop_tuple (by rfl) T.z_tuple (by decide +kernel) (pa_mCons (pe_mLc2 (own := [("x", 2), ("y", 3)]) (vs1 := [3]) rfl sc_boxed.nd (pi_mRange (by rfl) T.z_range (pa_mCons (pe_mVarF (pv 1)) pa_mNil)) (blkOk_by (own := [("x", 2), ("y", 3)]) (N := N_boxed) (sc := defScope s_boxed) (by decide +kernel)) (by decide) (gok_name 2) (by decide) (gok_name 3) (by decide) (fun _ _ _ _ _ => (pg_name (i := 2) sc_boxed.nd rfl (by first | exact Or.inl rfl | exact Or.inr rfl))) (fun _ _ _ _ _ => pts_mNil) (fun _ _ _ _ _ => (pi_mRange (by rfl) T.z_range (pa_mCons (pe_mVarF (pv 0)) pa_mNil))) (fun _ _ _ _ _ => (pg_name (i := 3) sc_boxed.nd rfl (by first | exact Or.inl rfl | exact Or.inr rfl))) (fun _ _ _ _ _ => pts_mNil) (fun _ _ _ _ _ => (pe_mTup (pa_mCons (pe_mVarF (pv 2)) (pa_mCons (pe_mVarF (pv 3)) pa_mNil))))) pa_mNil)))))
def m_square_more : MS := (mSeq (mPar [0, 1] (mCons (mCall m_need_room 1 [] (mCons (mVarF 0) mNil)) (mCons (mCall m_needed 1 [] (mCons (mCall m_plain_square 2 [] (mCons (mVarF 1) mNil)) mNil)) mNil)))
    (mSeq (mIf (mB (mInB false (mVarF 1) 0))
    (mRaise0 2)
    mSkip)
    (mRet (mFun tupleD (mCons (mFun sortD (mCons (mBin addD (mLst (mCons (mVarF 1) mNil)) (mFun listD (mCons (mVarF 0) mNil))) mNil)) mNil)))))
theorem ok_square_more (T : Tx mg g fd iA iF) : FnOk P w g.K mg base (L2.CX P w) 8 (g.F 50) (fd 50) P_square_more (spF g 2 2 m_square_more) :=
  okF T.F_square_more sc_square_more rfl rfl (by decide) fun cdv A outer s H E hr =>
    have tk := takes_of (E := E) rfl rfl rfl rfl
    (pss_mCons (ps_mPar (i := 0) (j := 1) rfl sc_square_more.nd rfl rfl (by decide) rfl rfl (pa_mCons (pe_mCall (ok_need_room T) (hr.mono (by decide)) (by rfl) T.m_need_room T.F_need_room.kp T.b_need_room .nil (passT tk) (dfl := []) (fun _ _ => RpA.nil) hE_of (pa_mCons (pe_mVarF (pv 0)) pa_mNil) (len_cons len_nil) rfl) (pa_mCons (pe_mCall (ok_needed T) (hr.mono (by decide)) (by rfl) T.m_needed T.F_needed.kp T.b_needed .nil (passT tk) (dfl := []) (fun _ _ => RpA.nil) hE_of (pa_mCons (pe_mCall (ok_plain_square T) (hr.mono (by decide)) (by rfl) T.m_plain_square T.F_plain_square.kp T.b_plain_square .nil (passT tk) (dfl := []) (fun _ _ => RpA.nil) hE_of (pa_mCons (pe_mVarF (pv 1)) pa_mNil) (len_cons len_nil) rfl) pa_mNil) (len_cons len_nil) rfl) pa_mNil)) (by rfl))
    (pss_mCons (ps_mIf (pt_mInB (OpR.or (op_inP hr.units) (op_inDc (hu_of hr))) (pe_mVarF (pv 1)) (pv 0) (by with_unfolding_all rfl))
    (pss_mOne (ps_mRaise0 (c := 2) rfl rfl tk base_VE T.E_CanNot T.i_CanNot T.j_CanNot (ok_init_CanNot T) (hr.mono (by decide)) T.B_CanNot (by rfl) T.n_CanNot T.f_CanNot))
    pss_mNil)
    (pss_mOne (ps_mRet (pe_mCallT call_tuple_of rop_tuple (by rfl) T.z_tuple (by decide +kernel) (pa_mCons (pe_mCallB (cr_sortDt rfl hr.units) rop_sort (by rfl) T.z_sorted (by decide +kernel) (pa_mCons (pe_mBin op_addU rop_add (pe_mLst (pa_mCons (pe_mVarF (pv 1)) pa_mNil)) (pe_mCallT call_list_of rop_list (by rfl) T.z_list (by decide +kernel) (pa_mCons (pe_mVarF (pv 0)) pa_mNil))) pa_mNil)) pa_mNil))))))
def m_square_less : MS := (mSeq (mTo (tgTL [0, 1]) (mTup (mCons (mCall m_need_room 1 [] (mCons (mVarF 0) mNil)) (mCons (mCall m_need_pair 1 [] (mCons (mVarF 1) mNil)) mNil))))
    (mSeq (mDrop (mCall m_check_square 2 [] (mCons (mVarF 0) (mCons (mVarF 1) mNil))))
    (mSeq (mIf (mB (mBin eqD (mFun lenD (mCons (mVarF 0) mNil)) (mC (.int 1))))
    (mRaise0 2)
    mSkip)
    (mRet (mFun tupleD (mCons (mLc (miSeq (mVarF 0)) (tgName 2) (mB (mBin neD (mVarF 2) (mVarF 1))) (mVarF 2) [2]) mNil))))))
theorem ok_square_less (T : Tx mg g fd iA iF) : FnOk P w g.K mg base (L2.CX P w) 8 (g.F 51) (fd 51) P_square_less (spF g 2 3 m_square_less) :=
  okF T.F_square_less sc_square_less rfl rfl (by decide) fun cdv A outer s H E hr =>
    have tk := takes_of (E := E) rfl rfl rfl rfl
    (pss_mCons (ps_mTo (pe_mTup (pa_mCons (pe_mCall (ok_need_room T) (hr.mono (by decide)) (by rfl) T.m_need_room T.F_need_room.kp T.b_need_room .nil (passT tk) (dfl := []) (fun _ _ => RpA.nil) hE_of (pa_mCons (pe_mVarF (pv 0)) pa_mNil) (len_cons len_nil) rfl) (pa_mCons (pe_mCall (ok_need_pair T) (hr.mono (by decide)) (by rfl) T.m_need_pair T.F_need_pair.kp T.b_need_pair .nil (passT tk) (dfl := []) (fun _ _ => RpA.nil) hE_of (pa_mCons (pe_mVarF (pv 1)) pa_mNil) (len_cons len_nil) rfl) pa_mNil))) (pg_tl (by rfl) (pgs_cons (pg_name (i := 0) sc_square_less.nd rfl (by first | exact Or.inl rfl | exact Or.inr rfl)) (pgs_cons (pg_name (i := 1) sc_square_less.nd rfl (by first | exact Or.inl rfl | exact Or.inr rfl)) pgs_nil))) (gok_tl [0, 1]))
    (pss_mCons (ps_mDrop (pe_mCall (ok_check_square T) (hr.mono (by decide)) (by rfl) T.m_check_square T.F_check_square.kp T.b_check_square .nil (passT tk) (dfl := []) (fun _ _ => RpA.nil) hE_of (pa_mCons (pe_mVarF (pv 0)) (pa_mCons (pe_mVarF (pv 1)) pa_mNil)) (len_cons (len_cons len_nil)) rfl))
    (pss_mCons (ps_mIf (pt_mCmp (op_eqP hr.units) rop_eq (pe_mCallB call_len rop_len (by rfl) T.z_len (by decide +kernel) (pa_mCons (pe_mVarF (pv 0)) pa_mNil)) pe_mInt (nomark _))
    (pss_mOne (ps_mRaise0 (c := 2) rfl rfl tk base_VE T.E_CanNot T.i_CanNot T.j_CanNot (ok_init_CanNot T) (hr.mono (by decide)) T.B_CanNot (by rfl) T.n_CanNot T.f_CanNot))
    pss_mNil)
    (pss_mOne (ps_mRet (pe_mCallT call_tuple_of rop_tuple (by rfl) T.z_tuple (by decide +kernel) (pa_mCons (pe_mLc (own := [("own", 2)]) rfl sc_square_less.nd (pi_mSeq rfl (pe_mVarF (pv 0))) (blkOk_by (own := [("own", 2)]) (N := N_square_less) (sc := defScope s_square_less) (by decide +kernel)) (gok_name 2) (by decide) (fun _ _ _ _ _ => (pg_name (i := 2) sc_square_less.nd rfl (by first | exact Or.inl rfl | exact Or.inr rfl))) (fun _ _ _ _ _ => (pts_one (pt_mCmp (op_neP hr.units) rop_ne (pe_mVarF (pv 2)) (pe_mVarF (pv 1)) (nomark _)))) (fun _ _ _ _ _ => (pe_mVarF (pv 2)))) pa_mNil)))))))
def m_is_kind : MS := (mRet (mCall m_as_told 2 [] (mCons (mCall m_plain_kind 1 [] (mCons (mVarF 0) mNil)) (mCons (mVarF 0) mNil))))
theorem ok_is_kind (T : Tx mg g fd iA iF) : FnOk P w g.K mg base (L2.CX P w) 4 (g.F 52) (fd 52) P_is_kind (spF g 1 1 m_is_kind) :=
  okF T.F_is_kind sc_is_kind rfl rfl (by decide) fun cdv A outer s H E hr =>
    have tk := takes_of (E := E) rfl rfl rfl rfl
    (pss_mOne (ps_mRet (pe_mCall (ok_as_told T) (hr.mono (by decide)) (by rfl) T.m_as_told T.F_as_told.kp T.b_as_told .nil (passT tk) (dfl := []) (fun _ _ => RpA.nil) hE_of (pa_mCons (pe_mCall (ok_plain_kind T) (hr.mono (by decide)) (by rfl) T.m_plain_kind T.F_plain_kind.kp T.b_plain_kind .nil (passT tk) (dfl := []) (fun _ _ => RpA.nil) hE_of (pa_mCons (pe_mVarF (pv 0)) pa_mNil) (len_cons len_nil) rfl) (pa_mCons (pe_mVarF (pv 0)) pa_mNil)) (len_cons (len_cons len_nil)) rfl)))
def m_is_laid : MS := (mSeq (mAsg 0 (mCall m_need_room 1 [] (mCons (mVarF 0) mNil)))
    (mRet (mCall m_as_told 2 [] (mCons (mCall m_plain_kinds 3 [] (mCons (mVarF 1) (mCons (mFun lenD (mCons (mVarF 0) mNil)) mNil))) (mCons (mVarF 1) mNil)))))
theorem ok_is_laid (T : Tx mg g fd iA iF) : FnOk P w g.K mg base (L2.CX P w) 8 (g.F 53) (fd 53) P_is_laid (spF g 2 2 m_is_laid) :=
  okF T.F_is_laid sc_is_laid rfl rfl (by decide) fun cdv A outer s H E hr =>
    have tk := takes_of (E := E) rfl rfl rfl rfl
    (pss_mCons (ps_mAsg (i := 0) sc_is_laid.nd rfl (by first | exact Or.inl rfl | exact Or.inr rfl) (pe_mCall (ok_need_room T) (hr.mono (by decide)) (by rfl) T.m_need_room T.F_need_room.kp T.b_need_room .nil (passT tk) (dfl := []) (fun _ _ => RpA.nil) hE_of (pa_mCons (pe_mVarF (pv 0)) pa_mNil) (len_cons len_nil) rfl))
    (pss_mOne (ps_mRet (pe_mCall (ok_as_told T) (hr.mono (by decide)) (by rfl) T.m_as_told T.F_as_told.kp T.b_as_told .nil (passT tk) (dfl := []) (fun _ _ => RpA.nil) hE_of (pa_mCons (pe_mCall (ok_plain_kinds T) (hr.mono (by decide)) (by rfl) T.m_plain_kinds T.F_plain_kinds.kp T.b_plain_kinds .nil (passT tk) (dfl := []) (fun _ _ => RpA.nil) hE_of (pa_mCons (pe_mVarF (pv 1)) (pa_mCons (pe_mCallB call_len rop_len (by rfl) T.z_len (by decide +kernel) (pa_mCons (pe_mVarF (pv 0)) pa_mNil)) pa_mNil)) (len_cons (len_cons len_nil)) rfl) (pa_mCons (pe_mVarF (pv 1)) pa_mNil)) (len_cons (len_cons len_nil)) rfl))))
def m_plain_spot : MS := (mSeq (mAsg 2 (mCall m_plain_pairs 1 [] (mCons (mVarF 1) mNil)))
    (mSeq (mIf (mOrT (mNotT (mTruB 2)) (mOrT (mB (mInB true (mBin ixD (mVarF 2) (mC (.int 0))) 0)) (mB (mBin (inD true) (mVarF 2) (mCall m_spots_with 4 [] (mCons (mVarF 0) (mCons (mBin ixD (mVarF 2) (mC (.int 0))) mNil)))))))
    (mRet (mC .non))
    mSkip)
    (mRet (mVarF 2))))
theorem ok_plain_spot (T : Tx mg g fd iA iF) : FnOk P w g.K mg base (L2.CX P w) 6 (g.F 54) (fd 54) P_plain_spot (spF g 2 3 m_plain_spot) :=
  okF T.F_plain_spot sc_plain_spot rfl rfl (by decide) fun cdv A outer s H E hr =>
    have tk := takes_of (E := E) rfl rfl rfl rfl
    (pss_mCons (ps_mAsg (i := 2) sc_plain_spot.nd rfl (by first | exact Or.inl rfl | exact Or.inr rfl) (pe_mCall (ok_plain_pairs T) (hr.mono (by decide)) (by rfl) T.m_plain_pairs T.F_plain_pairs.kp T.b_plain_pairs .nil (passT tk) (dfl := []) (fun _ _ => RpA.nil) hE_of (pa_mCons (pe_mVarF (pv 1)) pa_mNil) (len_cons len_nil) rfl))
    (pss_mCons (ps_mIf (PW.pt (pw_mOr (pt_mNot (pt_mTruB rfl (pv 2))) (pw_mOr (pt_mInB (OpR.or (op_notInP hr.units) (op_notInDc (hu_of hr))) (pe_mIx rfl (hu_of hr) (pe_mVarF (pv 2)) pe_mInt (fun _ _ => rfl) (fun _ _ => rfl)) (pv 0) (by with_unfolding_all rfl)) (pw_or1 (pt_mCmp (OpR.or (op_notInP hr.units) (op_notInDc (hu_of hr))) (rop_in true) (pe_mVarF (pv 2)) (pe_mCall (ok_spots_with T) (hr.mono (by decide)) (by rfl) T.m_spots_with T.F_spots_with.kp T.b_spots_with .nil (passT tk) (dfl := []) (fun _ _ => RpA.nil) hE_of (pa_mCons (pe_mVarF (pv 0)) (pa_mCons (pe_mIx rfl (hu_of hr) (pe_mVarF (pv 2)) pe_mInt (fun _ _ => rfl) (fun _ _ => rfl)) pa_mNil)) (len_cons (len_cons len_nil)) rfl) (by with_unfolding_all rfl))))))
    (pss_mOne (ps_mRet pe_mNon))
    pss_mNil)
    (pss_mOne (ps_mRet (pe_mVarF (pv 2))))))
def m_is_spot : MS := (mSeq (mAsg 0 (mCall m_need_room 1 [] (mCons (mVarF 0) mNil)))
    (mRet (mCall m_as_told 2 [] (mCons (mCall m_plain_spot 3 [] (mCons (mVarF 0) (mCons (mVarF 1) mNil))) (mCons (mVarF 1) mNil)))))
theorem ok_is_spot (T : Tx mg g fd iA iF) : FnOk P w g.K mg base (L2.CX P w) 8 (g.F 55) (fd 55) P_is_spot (spF g 2 2 m_is_spot) :=
  okF T.F_is_spot sc_is_spot rfl rfl (by decide) fun cdv A outer s H E hr =>
    have tk := takes_of (E := E) rfl rfl rfl rfl
    (pss_mCons (ps_mAsg (i := 0) sc_is_spot.nd rfl (by first | exact Or.inl rfl | exact Or.inr rfl) (pe_mCall (ok_need_room T) (hr.mono (by decide)) (by rfl) T.m_need_room T.F_need_room.kp T.b_need_room .nil (passT tk) (dfl := []) (fun _ _ => RpA.nil) hE_of (pa_mCons (pe_mVarF (pv 0)) pa_mNil) (len_cons len_nil) rfl))
    (pss_mOne (ps_mRet (pe_mCall (ok_as_told T) (hr.mono (by decide)) (by rfl) T.m_as_told T.F_as_told.kp T.b_as_told .nil (passT tk) (dfl := []) (fun _ _ => RpA.nil) hE_of (pa_mCons (pe_mCall (ok_plain_spot T) (hr.mono (by decide)) (by rfl) T.m_plain_spot T.F_plain_spot.kp T.b_plain_spot .nil (passT tk) (dfl := []) (fun _ _ => RpA.nil) hE_of (pa_mCons (pe_mVarF (pv 0)) (pa_mCons (pe_mVarF (pv 1)) pa_mNil)) (len_cons (len_cons len_nil)) rfl) (pa_mCons (pe_mVarF (pv 1)) pa_mNil)) (len_cons (len_cons len_nil)) rfl))))
def m_kinds_at : MS := (mSeq (mPar [0, 1] (mCons (mCall m_need_room 1 [] (mCons (mVarF 0) mNil)) (mCons (mCall m_need_pair 1 [] (mCons (mVarF 1) mNil)) mNil)))
    (mSeq (mDrop (mCall m_check_square 2 [] (mCons (mVarF 0) (mCons (mVarF 1) mNil))))
    (mRet (mCall m_kinds_in 3 [] (mCons (mVarF 0) (mCons (mVarF 1) mNil))))))
theorem ok_kinds_at (T : Tx mg g fd iA iF) : FnOk P w g.K mg base (L2.CX P w) 8 (g.F 56) (fd 56) P_kinds_at (spF g 2 2 m_kinds_at) :=
  okF T.F_kinds_at sc_kinds_at rfl rfl (by decide) fun cdv A outer s H E hr =>
    have tk := takes_of (E := E) rfl rfl rfl rfl
    (pss_mCons (ps_mPar (i := 0) (j := 1) rfl sc_kinds_at.nd rfl rfl (by decide) rfl rfl (pa_mCons (pe_mCall (ok_need_room T) (hr.mono (by decide)) (by rfl) T.m_need_room T.F_need_room.kp T.b_need_room .nil (passT tk) (dfl := []) (fun _ _ => RpA.nil) hE_of (pa_mCons (pe_mVarF (pv 0)) pa_mNil) (len_cons len_nil) rfl) (pa_mCons (pe_mCall (ok_need_pair T) (hr.mono (by decide)) (by rfl) T.m_need_pair T.F_need_pair.kp T.b_need_pair .nil (passT tk) (dfl := []) (fun _ _ => RpA.nil) hE_of (pa_mCons (pe_mVarF (pv 1)) pa_mNil) (len_cons len_nil) rfl) pa_mNil)) (by rfl))
    (pss_mCons (ps_mDrop (pe_mCall (ok_check_square T) (hr.mono (by decide)) (by rfl) T.m_check_square T.F_check_square.kp T.b_check_square .nil (passT tk) (dfl := []) (fun _ _ => RpA.nil) hE_of (pa_mCons (pe_mVarF (pv 0)) (pa_mCons (pe_mVarF (pv 1)) pa_mNil)) (len_cons (len_cons len_nil)) rfl))
    (pss_mOne (ps_mRet (pe_mCall (ok_kinds_in T) (hr.mono (by decide)) (by rfl) T.m_kinds_in T.F_kinds_in.kp T.b_kinds_in .nil (passT tk) (dfl := []) (fun _ _ => RpA.nil) hE_of (pa_mCons (pe_mVarF (pv 0)) (pa_mCons (pe_mVarF (pv 1)) pa_mNil)) (len_cons (len_cons len_nil)) rfl)))))
def m_joined_with : MS := (mSeq (mPar [0, 1, 2] (mCons (mCall m_need_room 1 [] (mCons (mVarF 0) mNil)) (mCons (mCall m_need_pair 1 [] (mCons (mVarF 1) mNil)) (mCons (mCall m_need_kind 1 [] (mCons (mVarF 2) mNil)) mNil))))
    (mSeq (mDrop (mCall m_check_square 2 [] (mCons (mVarF 0) (mCons (mVarF 1) mNil))))
    (mSeq (mIf (mB (mBin eqD (mVarF 2) (mC (.int 0))))
    (mRet (mC .non))
    mSkip)
    (mSeq (mAsg 3 (mCall m_toward 2 [] (mCons (mVarF 1) (mCons (mVarF 2) mNil))))
    (mSeq (mIf (mB (mInB true (mVarF 3) 0))
    (mRaise0 2)
    mSkip)
    (mRet (mVarF 3)))))))
theorem ok_joined_with (T : Tx mg g fd iA iF) : FnOk P w g.K mg base (L2.CX P w) 8 (g.F 57) (fd 57) P_joined_with (spF g 3 4 m_joined_with) :=
  okF T.F_joined_with sc_joined_with rfl rfl (by decide) fun cdv A outer s H E hr =>
    have tk := takes_of (E := E) rfl rfl rfl rfl
    (pss_mCons (ps_mPar3 (i := 0) (j := 1) (l := 2) rfl sc_joined_with.nd rfl rfl rfl (by decide) (by decide) (by decide) rfl rfl rfl (pa_mCons (pe_mCall (ok_need_room T) (hr.mono (by decide)) (by rfl) T.m_need_room T.F_need_room.kp T.b_need_room .nil (passT tk) (dfl := []) (fun _ _ => RpA.nil) hE_of (pa_mCons (pe_mVarF (pv 0)) pa_mNil) (len_cons len_nil) rfl) (pa_mCons (pe_mCall (ok_need_pair T) (hr.mono (by decide)) (by rfl) T.m_need_pair T.F_need_pair.kp T.b_need_pair .nil (passT tk) (dfl := []) (fun _ _ => RpA.nil) hE_of (pa_mCons (pe_mVarF (pv 1)) pa_mNil) (len_cons len_nil) rfl) (pa_mCons (pe_mCall (ok_need_kind T) (hr.mono (by decide)) (by rfl) T.m_need_kind T.F_need_kind.kp T.b_need_kind .nil (passT tk) (dfl := []) (fun _ _ => RpA.nil) hE_of (pa_mCons (pe_mVarF (pv 2)) pa_mNil) (len_cons len_nil) rfl) pa_mNil))) (by rfl))
    (pss_mCons (ps_mDrop (pe_mCall (ok_check_square T) (hr.mono (by decide)) (by rfl) T.m_check_square T.F_check_square.kp T.b_check_square .nil (passT tk) (dfl := []) (fun _ _ => RpA.nil) hE_of (pa_mCons (pe_mVarF (pv 0)) (pa_mCons (pe_mVarF (pv 1)) pa_mNil)) (len_cons (len_cons len_nil)) rfl))
    (pss_mCons (ps_mIf (pt_mCmp (op_eqP hr.units) rop_eq (pe_mVarF (pv 2)) pe_mInt (nomark _))
    (pss_mOne (ps_mRet pe_mNon))
    pss_mNil)
    (pss_mCons (ps_mAsg (i := 3) sc_joined_with.nd rfl (by first | exact Or.inl rfl | exact Or.inr rfl) (pe_mCall (ok_toward T) (hr.mono (by decide)) (by rfl) T.m_toward T.F_toward.kp T.b_toward .nil (passT tk) (dfl := []) (fun _ _ => RpA.nil) hE_of (pa_mCons (pe_mVarF (pv 1)) (pa_mCons (pe_mVarF (pv 2)) pa_mNil)) (len_cons (len_cons len_nil)) rfl))
    (pss_mCons (ps_mIf (pt_mInB (OpR.or (op_notInP hr.units) (op_notInDc (hu_of hr))) (pe_mVarF (pv 3)) (pv 0) (by with_unfolding_all rfl))
    (pss_mOne (ps_mRaise0 (c := 2) rfl rfl tk base_VE T.E_CanNot T.i_CanNot T.j_CanNot (ok_init_CanNot T) (hr.mono (by decide)) T.B_CanNot (by rfl) T.n_CanNot T.f_CanNot))
    pss_mNil)
    (pss_mOne (ps_mRet (pe_mVarF (pv 3)))))))))
def m_fits_east : MS := (mRet (mCall m_east_fit 2 [] (mCons (mCall m_need_kind 1 [] (mCons (mVarF 0) mNil)) (mCons (mCall m_need_kind 1 [] (mCons (mVarF 1) mNil)) mNil))))
theorem ok_fits_east (T : Tx mg g fd iA iF) : FnOk P w g.K mg base (L2.CX P w) 5 (g.F 58) (fd 58) P_fits_east (spF g 2 2 m_fits_east) :=
  okF T.F_fits_east sc_fits_east rfl rfl (by decide) fun cdv A outer s H E hr =>
    have tk := takes_of (E := E) rfl rfl rfl rfl
    (pss_mOne (ps_mRet (pe_mCall (ok_east_fit T) (hr.mono (by decide)) (by rfl) T.m_east_fit T.F_east_fit.kp T.b_east_fit .nil (passT tk) (dfl := []) (fun _ _ => RpA.nil) hE_of (pa_mCons (pe_mCall (ok_need_kind T) (hr.mono (by decide)) (by rfl) T.m_need_kind T.F_need_kind.kp T.b_need_kind .nil (passT tk) (dfl := []) (fun _ _ => RpA.nil) hE_of (pa_mCons (pe_mVarF (pv 0)) pa_mNil) (len_cons len_nil) rfl) (pa_mCons (pe_mCall (ok_need_kind T) (hr.mono (by decide)) (by rfl) T.m_need_kind T.F_need_kind.kp T.b_need_kind .nil (passT tk) (dfl := []) (fun _ _ => RpA.nil) hE_of (pa_mCons (pe_mVarF (pv 1)) pa_mNil) (len_cons len_nil) rfl) pa_mNil)) (len_cons (len_cons len_nil)) rfl)))
def m_fits_south : MS := (mRet (mCall m_south_fit 2 [] (mCons (mCall m_need_kind 1 [] (mCons (mVarF 0) mNil)) (mCons (mCall m_need_kind 1 [] (mCons (mVarF 1) mNil)) mNil))))
theorem ok_fits_south (T : Tx mg g fd iA iF) : FnOk P w g.K mg base (L2.CX P w) 5 (g.F 59) (fd 59) P_fits_south (spF g 2 2 m_fits_south) :=
  okF T.F_fits_south sc_fits_south rfl rfl (by decide) fun cdv A outer s H E hr =>
    have tk := takes_of (E := E) rfl rfl rfl rfl
    (pss_mOne (ps_mRet (pe_mCall (ok_south_fit T) (hr.mono (by decide)) (by rfl) T.m_south_fit T.F_south_fit.kp T.b_south_fit .nil (passT tk) (dfl := []) (fun _ _ => RpA.nil) hE_of (pa_mCons (pe_mCall (ok_need_kind T) (hr.mono (by decide)) (by rfl) T.m_need_kind T.F_need_kind.kp T.b_need_kind .nil (passT tk) (dfl := []) (fun _ _ => RpA.nil) hE_of (pa_mCons (pe_mVarF (pv 0)) pa_mNil) (len_cons len_nil) rfl) (pa_mCons (pe_mCall (ok_need_kind T) (hr.mono (by decide)) (by rfl) T.m_need_kind T.F_need_kind.kp T.b_need_kind .nil (passT tk) (dfl := []) (fun _ _ => RpA.nil) hE_of (pa_mCons (pe_mVarF (pv 1)) pa_mNil) (len_cons len_nil) rfl) pa_mNil)) (len_cons (len_cons len_nil)) rfl)))
def m_point_fits : MS := (mRet (mCall m_four_fit 7 [] (mCons (mCall m_needed 1 [] (mCons (mCall m_plain_kinds 3 [] (mCons (mVarF 0) (mCons (mC (.int 4)) mNil))) mNil)) mNil)))
theorem ok_point_fits (T : Tx mg g fd iA iF) : FnOk P w g.K mg base (L2.CX P w) 4 (g.F 60) (fd 60) P_point_fits (spF g 1 1 m_point_fits) :=
  okF T.F_point_fits sc_point_fits rfl rfl (by decide) fun cdv A outer s H E hr =>
    have tk := takes_of (E := E) rfl rfl rfl rfl
    (pss_mOne (ps_mRet (pe_mCall (ok_four_fit T) (hr.mono (by decide)) (by rfl) T.m_four_fit T.F_four_fit.kp T.b_four_fit .nil (passT tk) (dfl := []) (fun _ _ => RpA.nil) hE_of (pa_mCons (pe_mCall (ok_needed T) (hr.mono (by decide)) (by rfl) T.m_needed T.F_needed.kp T.b_needed .nil (passT tk) (dfl := []) (fun _ _ => RpA.nil) hE_of (pa_mCons (pe_mCall (ok_plain_kinds T) (hr.mono (by decide)) (by rfl) T.m_plain_kinds T.F_plain_kinds.kp T.b_plain_kinds .nil (passT tk) (dfl := []) (fun _ _ => RpA.nil) hE_of (pa_mCons (pe_mVarF (pv 0)) (pa_mCons pe_mInt pa_mNil)) (len_cons (len_cons len_nil)) rfl) pa_mNil) (len_cons len_nil) rfl) pa_mNil) (len_cons len_nil) rfl)))
def m_spots : MS := (mRet (mCall m_spots_of 5 [] (mCons (mCall m_need_room 1 [] (mCons (mVarF 0) mNil)) mNil)))
theorem ok_spots (T : Tx mg g fd iA iF) : FnOk P w g.K mg base (L2.CX P w) 8 (g.F 61) (fd 61) P_spots (spF g 1 1 m_spots) :=
  okF T.F_spots sc_spots rfl rfl (by decide) fun cdv A outer s H E hr =>
    have tk := takes_of (E := E) rfl rfl rfl rfl
    (pss_mOne (ps_mRet (pe_mCall (ok_spots_of T) (hr.mono (by decide)) (by rfl) T.m_spots_of T.F_spots_of.kp T.b_spots_of .nil (passT tk) (dfl := []) (fun _ _ => RpA.nil) hE_of (pa_mCons (pe_mCall (ok_need_room T) (hr.mono (by decide)) (by rfl) T.m_need_room T.F_need_room.kp T.b_need_room .nil (passT tk) (dfl := []) (fun _ _ => RpA.nil) hE_of (pa_mCons (pe_mVarF (pv 0)) pa_mNil) (len_cons len_nil) rfl) pa_mNil) (len_cons len_nil) rfl)))
def m_spots_at : MS := (mSeq (mPar [0, 1] (mCons (mCall m_need_room 1 [] (mCons (mVarF 0) mNil)) (mCons (mCall m_need_pair 1 [] (mCons (mVarF 1) mNil)) mNil)))
    (mSeq (mDrop (mCall m_check_square 2 [] (mCons (mVarF 0) (mCons (mVarF 1) mNil))))
    (mRet (mCall m_spots_with 4 [] (mCons (mVarF 0) (mCons (mVarF 1) mNil))))))
theorem ok_spots_at (T : Tx mg g fd iA iF) : FnOk P w g.K mg base (L2.CX P w) 8 (g.F 62) (fd 62) P_spots_at (spF g 2 2 m_spots_at) :=
  okF T.F_spots_at sc_spots_at rfl rfl (by decide) fun cdv A outer s H E hr =>
    have tk := takes_of (E := E) rfl rfl rfl rfl
    (pss_mCons (ps_mPar (i := 0) (j := 1) rfl sc_spots_at.nd rfl rfl (by decide) rfl rfl (pa_mCons (pe_mCall (ok_need_room T) (hr.mono (by decide)) (by rfl) T.m_need_room T.F_need_room.kp T.b_need_room .nil (passT tk) (dfl := []) (fun _ _ => RpA.nil) hE_of (pa_mCons (pe_mVarF (pv 0)) pa_mNil) (len_cons len_nil) rfl) (pa_mCons (pe_mCall (ok_need_pair T) (hr.mono (by decide)) (by rfl) T.m_need_pair T.F_need_pair.kp T.b_need_pair .nil (passT tk) (dfl := []) (fun _ _ => RpA.nil) hE_of (pa_mCons (pe_mVarF (pv 1)) pa_mNil) (len_cons len_nil) rfl) pa_mNil)) (by rfl))
    (pss_mCons (ps_mDrop (pe_mCall (ok_check_square T) (hr.mono (by decide)) (by rfl) T.m_check_square T.F_check_square.kp T.b_check_square .nil (passT tk) (dfl := []) (fun _ _ => RpA.nil) hE_of (pa_mCons (pe_mVarF (pv 0)) (pa_mCons (pe_mVarF (pv 1)) pa_mNil)) (len_cons (len_cons len_nil)) rfl))
    (pss_mOne (ps_mRet (pe_mCall (ok_spots_with T) (hr.mono (by decide)) (by rfl) T.m_spots_with T.F_spots_with.kp T.b_spots_with .nil (passT tk) (dfl := []) (fun _ _ => RpA.nil) hE_of (pa_mCons (pe_mVarF (pv 0)) (pa_mCons (pe_mVarF (pv 1)) pa_mNil)) (len_cons (len_cons len_nil)) rfl)))))
def m_fits_at : MS := (mSeq (mAsg 0 (mCall m_need_room 1 [] (mCons (mVarF 0) mNil)))
    (mSeq (mAsg 1 (mCall m_needed 1 [] (mCons (mCall m_plain_kinds 3 [] (mCons (mVarF 1) (mCons (mFun lenD (mCons (mVarF 0) mNil)) mNil))) mNil)))
    (mSeq (mAsg 2 (mCall m_needed 1 [] (mCons (mCall m_plain_spot 3 [] (mCons (mVarF 0) (mCons (mVarF 2) mNil))) mNil)))
    (mSeq (mAsg 3 (mFun zipTD (mCons (mVarF 0) (mCons (mVarF 1) mNil))))
    (mRet (mCall m_spot_fits 3 [] (mCons (mVarF 0) (mCons (mVarF 2) (mCons (mLc (miSeq (mVarF 2)) (tgName 4) mYes (mBin ixD (mVarF 3) (mVarF 4)) [4]) mNil)))))))))
theorem ok_fits_at (T : Tx mg g fd iA iF) : FnOk P w g.K mg base (L2.CX P w) 8 (g.F 63) (fd 63) P_fits_at (spF g 3 5 m_fits_at) :=
  okF T.F_fits_at sc_fits_at rfl rfl (by decide) fun cdv A outer s H E hr =>
    have tk := takes_of (E := E) rfl rfl rfl rfl
    (pss_mCons (ps_mAsg (i := 0) sc_fits_at.nd rfl (by first | exact Or.inl rfl | exact Or.inr rfl) (pe_mCall (ok_need_room T) (hr.mono (by decide)) (by rfl) T.m_need_room T.F_need_room.kp T.b_need_room .nil (passT tk) (dfl := []) (fun _ _ => RpA.nil) hE_of (pa_mCons (pe_mVarF (pv 0)) pa_mNil) (len_cons len_nil) rfl))
    (pss_mCons (ps_mAsg (i := 1) sc_fits_at.nd rfl (by first | exact Or.inl rfl | exact Or.inr rfl) (pe_mCall (ok_needed T) (hr.mono (by decide)) (by rfl) T.m_needed T.F_needed.kp T.b_needed .nil (passT tk) (dfl := []) (fun _ _ => RpA.nil) hE_of (pa_mCons (pe_mCall (ok_plain_kinds T) (hr.mono (by decide)) (by rfl) T.m_plain_kinds T.F_plain_kinds.kp T.b_plain_kinds .nil (passT tk) (dfl := []) (fun _ _ => RpA.nil) hE_of (pa_mCons (pe_mVarF (pv 1)) (pa_mCons (pe_mCallB call_len rop_len (by rfl) T.z_len (by decide +kernel) (pa_mCons (pe_mVarF (pv 0)) pa_mNil)) pa_mNil)) (len_cons (len_cons len_nil)) rfl) pa_mNil) (len_cons len_nil) rfl))
    (pss_mCons (ps_mAsg (i := 2) sc_fits_at.nd rfl (by first | exact Or.inl rfl | exact Or.inr rfl) (pe_mCall (ok_needed T) (hr.mono (by decide)) (by rfl) T.m_needed T.F_needed.kp T.b_needed .nil (passT tk) (dfl := []) (fun _ _ => RpA.nil) hE_of (pa_mCons (pe_mCall (ok_plain_spot T) (hr.mono (by decide)) (by rfl) T.m_plain_spot T.F_plain_spot.kp T.b_plain_spot .nil (passT tk) (dfl := []) (fun _ _ => RpA.nil) hE_of (pa_mCons (pe_mVarF (pv 0)) (pa_mCons (pe_mVarF (pv 2)) pa_mNil)) (len_cons (len_cons len_nil)) rfl) pa_mNil) (len_cons len_nil) rfl))
    (pss_mCons (ps_mAsg (i := 3) sc_fits_at.nd rfl (by first | exact Or.inl rfl | exact Or.inr rfl) (pe_mDictZip rfl hr.units rfl (by rfl) T.z_dict (by rfl) T.z_zip (pe_mVarF (pv 0)) (pe_mVarF (pv 1))))
    (pss_mOne (ps_mRet (pe_mCall (ok_spot_fits T) (hr.mono (by decide)) (by rfl) T.m_spot_fits T.F_spot_fits.kp T.b_spot_fits .nil (passT tk) (dfl := []) (fun _ _ => RpA.nil) hE_of (pa_mCons (pe_mVarF (pv 0)) (pa_mCons (pe_mVarF (pv 2)) (pa_mCons (pe_mLc (own := [("square", 4)]) rfl sc_fits_at.nd (pi_mSeq rfl (pe_mVarF (pv 2))) (blkOk_by (own := [("square", 4)]) (N := N_fits_at) (sc := defScope s_fits_at) (by decide +kernel)) (gok_name 4) (by decide) (fun _ _ _ _ _ => (pg_name (i := 4) sc_fits_at.nd rfl (by first | exact Or.inl rfl | exact Or.inr rfl))) (fun _ _ _ _ _ => pts_mNil) (fun _ _ _ _ _ => (pe_mIx rfl (hu_of hr) (pe_mVarF (pv 3)) (pe_mVarF (pv 4)) (fun _ _ => rfl) (fun _ _ => rfl)))) pa_mNil))) (len_cons (len_cons (len_cons len_nil))) rfl)))))))
def m_fitting : MS := (mSeq (mAsg 0 (mCall m_need_room 1 [] (mCons (mVarF 0) mNil)))
    (mSeq (mAsg 1 (mCall m_needed 1 [] (mCons (mCall m_plain_spot 3 [] (mCons (mVarF 0) (mCons (mVarF 1) mNil))) mNil)))
    (mSeq (mAsg 2 (mCall m_table_of 2 [] (mCons (mVarF 0) mNil)))
    (mSeq (mAsg 3 (mLst (mCons (mTup mNil) mNil)))
    (mSeq (mForA 1 (tgName 4) (mAsg 3 (mLc2 (miSeq (mVarF 3)) (tgName 5) mYes (miSeq (mCall m_kinds_in 3 [] (mCons (mVarF 2) (mCons (mVarF 4) mNil)))) (tgName 6) mYes (mBin addD (mVarF 5) (mTup (mCons (mVarF 6) mNil))) [5, 6] [6])))
    (mRet (mLc (miSeq (mVarF 3)) (tgName 5) (mTru (mCall m_spot_fits 3 [] (mCons (mVarF 2) (mCons (mVarF 1) (mCons (mVarF 5) mNil))))) (mVarF 5) [5])))))))
theorem ok_fitting (T : Tx mg g fd iA iF) : FnOk P w g.K mg base (L2.CX P w) 8 (g.F 64) (fd 64) P_fitting (spF g 2 7 m_fitting) :=
  okF T.F_fitting sc_fitting rfl rfl (by decide) fun cdv A outer s H E hr =>
    have tk := takes_of (E := E) rfl rfl rfl rfl
    (pss_mCons (ps_mAsg (i := 0) sc_fitting.nd rfl (by first | exact Or.inl rfl | exact Or.inr rfl) (pe_mCall (ok_need_room T) (hr.mono (by decide)) (by rfl) T.m_need_room T.F_need_room.kp T.b_need_room .nil (passT tk) (dfl := []) (fun _ _ => RpA.nil) hE_of (pa_mCons (pe_mVarF (pv 0)) pa_mNil) (len_cons len_nil) rfl))
    (pss_mCons (ps_mAsg (i := 1) sc_fitting.nd rfl (by first | exact Or.inl rfl | exact Or.inr rfl) (pe_mCall (ok_needed T) (hr.mono (by decide)) (by rfl) T.m_needed T.F_needed.kp T.b_needed .nil (passT tk) (dfl := []) (fun _ _ => RpA.nil) hE_of (pa_mCons (pe_mCall (ok_plain_spot T) (hr.mono (by decide)) (by rfl) T.m_plain_spot T.F_plain_spot.kp T.b_plain_spot .nil (passT tk) (dfl := []) (fun _ _ => RpA.nil) hE_of (pa_mCons (pe_mVarF (pv 0)) (pa_mCons (pe_mVarF (pv 1)) pa_mNil)) (len_cons (len_cons len_nil)) rfl) pa_mNil) (len_cons len_nil) rfl))
    (pss_mCons (ps_mAsg (i := 2) sc_fitting.nd rfl (by first | exact Or.inl rfl | exact Or.inr rfl) (pe_mCall (ok_table_of T) (hr.mono (by decide)) (by rfl) T.m_table_of T.F_table_of.kp T.b_table_of .nil (passT tk) (dfl := []) (fun _ _ => RpA.nil) hE_of (pa_mCons (pe_mVarF (pv 0)) pa_mNil) (len_cons len_nil) rfl))
    (pss_mCons (ps_mAsg (i := 3) sc_fitting.nd rfl (by first | exact Or.inl rfl | exact Or.inr rfl) (pe_mLst (pa_mCons (pe_mTup pa_mNil) pa_mNil)))
    (pss_mCons (ps_mForA (passes_of rfl) rfl (pi_mSeq rfl (pe_mVarF (pv 1))) (pv 1) (pg_name (i := 4) sc_fitting.nd rfl (by first | exact Or.inl rfl | exact Or.inr rfl)) (gok_name 4) (pss_mOne (ps_mLc2 (own := [("row", 5), ("kind", 6)]) (vs1 := [6]) (i := 3) rfl sc_fitting.nd rfl rfl (sw_true rfl rfl rfl (by decide +kernel)) (pi_mSeq rfl (pe_mVarF (pv 3))) (blkOk_by (own := [("row", 5), ("kind", 6)]) (N := N_fitting) (sc := defScope s_fitting) (by decide +kernel)) (by decide) (gok_name 5) (by decide) (gok_name 6) (by decide) (fun _ _ _ _ _ => (pg_name (i := 5) sc_fitting.nd rfl (by first | exact Or.inl rfl | exact Or.inr rfl))) (fun _ _ _ _ _ => pts_mNil) (fun _ _ _ _ _ => (pi_mSeq rfl (pe_mCall (ok_kinds_in T) (hr.mono (by decide)) (by rfl) T.m_kinds_in T.F_kinds_in.kp T.b_kinds_in .nil passF (dfl := []) (fun _ _ => RpA.nil) hE_no (pa_mCons (pe_mVarF (pv 2)) (pa_mCons (pe_mVarF (pv 4)) pa_mNil)) (len_cons (len_cons len_nil)) rfl))) (fun _ _ _ _ _ => (pg_name (i := 6) sc_fitting.nd rfl (by first | exact Or.inl rfl | exact Or.inr rfl))) (fun _ _ _ _ _ => pts_mNil) (fun _ _ _ _ _ => (pe_mBin op_addU rop_add (pe_mVarF (pv 5)) (pe_mTup (pa_mCons (pe_mVarF (pv 6)) pa_mNil)))))))
    (pss_mOne (ps_mRet (pe_mLc (own := [("row", 5)]) rfl sc_fitting.nd (pi_mSeq rfl (pe_mVarF (pv 3))) (blkOk_by (own := [("row", 5)]) (N := N_fitting) (sc := defScope s_fitting) (by decide +kernel)) (gok_name 5) (by decide) (fun _ _ _ _ _ => (pg_name (i := 5) sc_fitting.nd rfl (by first | exact Or.inl rfl | exact Or.inr rfl))) (fun _ _ _ _ _ => (pts_one (pt_mTru rfl (pe_mCall (ok_spot_fits T) (hr.mono (by decide)) (by rfl) T.m_spot_fits T.F_spot_fits.kp T.b_spot_fits .nil passF (dfl := []) (fun _ _ => RpA.nil) hE_no (pa_mCons (pe_mVarF (pv 2)) (pa_mCons (pe_mVarF (pv 1)) (pa_mCons (pe_mVarF (pv 5)) pa_mNil))) (len_cons (len_cons (len_cons len_nil))) rfl) (by intro _; rfl)))) (fun _ _ _ _ _ => (pe_mVarF (pv 5)))))))))))
def m__law_box : MS := (mAsg 2 (mIfE (mB (mBin ltD (mVarF 1) (mFun lenD (mCons (mVarF 0) mNil)))) (mBin ixD (mVarF 0) (mVarF 1)) (mC (.int 0))))
def f__law_box : MA := (fLst (mCons (mBin mulD (mFun absD (mCons (mVarF 2) mNil)) (mFun intD (mCons (mBin geD (mFun absD (mCons (mVarF 2) mNil)) (mBin powD (mC (.int 10)) (mC (.int 18)))) mNil))) (mCons (mBin addD (mBin addD (mBin modD (mFun intD (mCons (mVarF 2) mNil)) (mC (.int 2305843009213693951))) (mBin mulD (mC (.int 39373)) (mVarF 1))) (mC (.int 5322007))) (mCons (mC (.int 0)) mNil))))
theorem ok__law_box (T : Tx mg g fd iA iF) : FnOk P w g.K mg base (L2.CX P w) 1 (g.F 65) (fd 65) P__law_box (spFr g 2 3 m__law_box f__law_box) :=
  okFr T.F__law_box sc__law_box rfl rfl (by decide) fun cdv A outer s H E hr =>
    pss_cons (ps_mAsg (i := 2) sc__law_box.nd rfl (by first | exact Or.inl rfl | exact Or.inr rfl) (pe_mIfE (pt_mCmp (OpR.or (op_lt) (op_ltP hr.units)) ROp.ord (pe_mVarF (pv 1)) (pe_mCallB call_len rop_len (by rfl) T.z_len (by decide +kernel) (pa_mCons (pe_mVarF (pv 0)) pa_mNil)) (nomark _)) (pe_mIx rfl (hu_of hr) (pe_mVarF (pv 0)) (pe_mVarF (pv 1)) (fun _ _ => rfl) (fun _ _ => rfl)) pe_mInt)) (pss_one (ps_ret (pe_fLst (pa_mCons (pe_mBin op_mulU rop_mul (pe_mCallB call_abs rop_abs (by rfl) T.z_abs (by decide +kernel) (pa_mCons (pe_mVarF (pv 2)) pa_mNil)) (pe_mCallT call_int1 rop_int (by rfl) T.z_int (by decide +kernel) (pa_mCons (pe_mCmp (OpR.or (op_ge) (op_geP hr.units)) ROp.ord (pe_mCallB call_abs rop_abs (by rfl) T.z_abs (by decide +kernel) (pa_mCons (pe_mVarF (pv 2)) pa_mNil)) (pe_mBin op_pow rop_pow pe_mInt pe_mInt) (nomark _)) pa_mNil))) (pa_mCons (pe_mBin op_addU rop_add (pe_mBin op_addU rop_add (pe_mBin op_mod rop_mod (pe_mCallT call_int1 rop_int (by rfl) T.z_int (by decide +kernel) (pa_mCons (pe_mVarF (pv 2)) pa_mNil)) pe_mInt) (pe_mBin op_mulU rop_mul pe_mInt (pe_mVarF (pv 1)))) pe_mInt) (pa_mCons pe_mInt pa_mNil))))))
def m__law_take : MS := (mSeq (mIf (mB (mBin gtD (mIxB 0 (mC (.int 0))) (mC (.int 0))))
    (mSeq (mAsg 2 (mBin modD (mFun intD (mCons (mIxB 0 (mC (.int 0))) mNil)) (mVarF 1)))
    (mSeq (mPutL 0 (mC (.int 0)) (mBin divD (mIxB 0 (mC (.int 0))) (mVarF 1)))
    (mRet (mVarF 2))))
    mSkip)
    (mSeq (mPutL 0 (mC (.int 2)) (mBin addD (mIxB 0 (mC (.int 2))) (mC (.int 1))))
    (mSeq (mAsg 3 (mBin modD (mFun intD (mCons (mBin mulD (mBin addD (mIxB 0 (mC (.int 1))) (mBin mulD (mC (.int 48271)) (mIxB 0 (mC (.int 2))))) (mBin addD (mC (.int 39373)) (mIxB 0 (mC (.int 2))))) mNil)) (mC (.int 2147483647))))
    (mSeq (mAsg 4 (mBin addD (mBin modD (mFun intD (mCons (mVarF 3) mNil)) (mC (.int 40009))) (mC (.int 7))))
    (mSeq (mAsg 5 (mBin modD (mFun intD (mCons (mBin mulD (mBin addD (mBin addD (mVarF 3) (mIxB 0 (mC (.int 2)))) (mBin divD (mIxB 0 (mC (.int 1))) (mC (.int 1000003)))) (mVarF 4)) mNil)) (mC (.int 2147483629))))
    (mRet (mBin modD (mFun intD (mCons (mBin divD (mBin modD (mFun intD (mCons (mBin addD (mBin mulD (mVarF 5) (mC (.int 48271))) (mVarF 3)) mNil)) (mC (.int 2147483587))) (mC (.int 64))) mNil)) (mVarF 1))))))))
theorem ok__law_take (T : Tx mg g fd iA iF) : FnOk P w g.K mg base (L2.CX P w) 1 (g.F 66) (fd 66) P__law_take (spF g 2 6 m__law_take) :=
  okF T.F__law_take sc__law_take rfl rfl (by decide) fun cdv A outer s H E hr =>
    (pss_mCons (ps_mIf (pt_mCmp (OpR.or (op_gt) (op_gtP hr.units)) ROp.ord (pe_mIxB rfl (hu_of hr) (pv 0) pe_mInt (fun _ _ => rfl) (fun _ _ => rfl)) pe_mInt (nomark _))
    (pss_mCons (ps_mAsg (i := 2) sc__law_take.nd rfl (by first | exact Or.inl rfl | exact Or.inr rfl) (pe_mBin op_mod rop_mod (pe_mCallT call_int1 rop_int (by rfl) T.z_int (by decide +kernel) (pa_mCons (pe_mIxB rfl (hu_of hr) (pv 0) pe_mInt (fun _ _ => rfl) (fun _ _ => rfl)) pa_mNil)) (pe_mVarF (pv 1))))
    (pss_mCons (ps_mPutL (pv 0) pe_mInt (pe_mBin op_fdiv rop_div (pe_mIxB rfl (hu_of hr) (pv 0) pe_mInt (fun _ _ => rfl) (fun _ _ => rfl)) (pe_mVarF (pv 1))))
    (pss_mOne (ps_mRet (pe_mVarF (pv 2))))))
    pss_mNil)
    (pss_mCons (ps_mPutL (pv 0) pe_mInt (pe_mBin op_addU rop_add (pe_mIxB rfl (hu_of hr) (pv 0) pe_mInt (fun _ _ => rfl) (fun _ _ => rfl)) pe_mInt))
    (pss_mCons (ps_mAsg (i := 3) sc__law_take.nd rfl (by first | exact Or.inl rfl | exact Or.inr rfl) (pe_mBin op_mod rop_mod (pe_mCallT call_int1 rop_int (by rfl) T.z_int (by decide +kernel) (pa_mCons (pe_mBin op_mulU rop_mul (pe_mBin op_addU rop_add (pe_mIxB rfl (hu_of hr) (pv 0) pe_mInt (fun _ _ => rfl) (fun _ _ => rfl)) (pe_mBin op_mulU rop_mul pe_mInt (pe_mIxB rfl (hu_of hr) (pv 0) pe_mInt (fun _ _ => rfl) (fun _ _ => rfl)))) (pe_mBin op_addU rop_add pe_mInt (pe_mIxB rfl (hu_of hr) (pv 0) pe_mInt (fun _ _ => rfl) (fun _ _ => rfl)))) pa_mNil)) pe_mInt))
    (pss_mCons (ps_mAsg (i := 4) sc__law_take.nd rfl (by first | exact Or.inl rfl | exact Or.inr rfl) (pe_mBin op_addU rop_add (pe_mBin op_mod rop_mod (pe_mCallT call_int1 rop_int (by rfl) T.z_int (by decide +kernel) (pa_mCons (pe_mVarF (pv 3)) pa_mNil)) pe_mInt) pe_mInt))
    (pss_mCons (ps_mAsg (i := 5) sc__law_take.nd rfl (by first | exact Or.inl rfl | exact Or.inr rfl) (pe_mBin op_mod rop_mod (pe_mCallT call_int1 rop_int (by rfl) T.z_int (by decide +kernel) (pa_mCons (pe_mBin op_mulU rop_mul (pe_mBin op_addU rop_add (pe_mBin op_addU rop_add (pe_mVarF (pv 3)) (pe_mIxB rfl (hu_of hr) (pv 0) pe_mInt (fun _ _ => rfl) (fun _ _ => rfl))) (pe_mBin op_fdiv rop_div (pe_mIxB rfl (hu_of hr) (pv 0) pe_mInt (fun _ _ => rfl) (fun _ _ => rfl)) pe_mInt)) (pe_mVarF (pv 4))) pa_mNil)) pe_mInt))
    (pss_mOne (ps_mRet (pe_mBin op_mod rop_mod (pe_mCallT call_int1 rop_int (by rfl) T.z_int (by decide +kernel) (pa_mCons (pe_mBin op_fdiv rop_div (pe_mBin op_mod rop_mod (pe_mCallT call_int1 rop_int (by rfl) T.z_int (by decide +kernel) (pa_mCons (pe_mBin op_addU rop_add (pe_mBin op_mulU rop_mul (pe_mVarF (pv 5)) pe_mInt) (pe_mVarF (pv 3))) pa_mNil)) pe_mInt) pe_mInt) pa_mNil)) (pe_mVarF (pv 1))))))))))
def m__law_cells : MS := (mSeq (mSetF 2 (fOr (fList (mSl (mVarF 0) mPN (mPS (mVarF 1)))) (fLst (mCons (mC (.int 0)) mNil))))
    (mSeq (mFor (miFun enumF (mCons (mSl (mVarF 0) (mPS (mVarF 1)) (mPS (mC (.int 63)))) mNil)) (tgTup [3, 4]) (mSeq (mAsg 5 (mBin modD (mFun intD (mCons (mVarF 3) mNil)) (mVarF 1)))
    (mPutL 2 (mVarF 5) (mBin addD (mIxB 2 (mVarF 5)) (mBin mulD (mVarF 4) (mBin addD (mVarF 3) (mC (.int 2))))))))
    (mRet (mVarF 2))))
theorem ok__law_cells (T : Tx mg g fd iA iF) : FnOk P w g.K mg base (L2.CX P w) 1 (g.F 67) (fd 67) P__law_cells (spF g 2 6 m__law_cells) :=
  okF T.F__law_cells sc__law_cells rfl rfl (by decide) fun cdv A outer s H E hr =>
    (pss_mCons (ps_mSetF (i := 2) sc__law_cells.nd rfl (by first | exact Or.inl rfl | exact Or.inr rfl) (pe_fOr rfl (pe_fList rfl (by rfl) T.z_list (pe_mSl rfl (pe_mVarF (pv 0)) po_mN (po_mS (pe_mVarF (pv 1))))) (pe_fLst (pa_mCons pe_mInt pa_mNil))))
    (pss_mCons (ps_mFor (passes_of rfl) rfl (pi_mEnum rfl (by rfl) T.z_enumerate (pa_mCons (pe_mSl rfl (pe_mVarF (pv 0)) (po_mS (pe_mVarF (pv 1))) (po_mS pe_mInt)) pa_mNil)) (pg_tup (by rfl) (pgs_cons (pg_name (i := 3) sc__law_cells.nd rfl (by first | exact Or.inl rfl | exact Or.inr rfl)) (pgs_cons (pg_name (i := 4) sc__law_cells.nd rfl (by first | exact Or.inl rfl | exact Or.inr rfl)) pgs_nil))) (gok_tup [3, 4]) (pss_mCons (ps_mAsg (i := 5) sc__law_cells.nd rfl (by first | exact Or.inl rfl | exact Or.inr rfl) (pe_mBin op_mod rop_mod (pe_mCallT call_int1 rop_int (by rfl) T.z_int (by decide +kernel) (pa_mCons (pe_mVarF (pv 3)) pa_mNil)) (pe_mVarF (pv 1))))
    (pss_mOne (ps_mPutL (pv 2) (pe_mVarF (pv 5)) (pe_mBin op_addU rop_add (pe_mIxB rfl (hu_of hr) (pv 2) (pe_mVarF (pv 5)) (fun _ _ => rfl) (fun _ _ => rfl)) (pe_mBin op_mulU rop_mul (pe_mVarF (pv 4)) (pe_mBin op_addU rop_add (pe_mVarF (pv 3)) pe_mInt)))))))
    (pss_mOne (ps_mRet (pe_mVarF (pv 2))))))
def m__law_lists : Nat → MS
  | 0 => fun _ => .no
  | n + 1 => (mRet (mIfE (mTru (mIsa2 .list .tuple (mVarF 0))) (mLc (miSeq (mVarF 0)) (tgName 1) mYes (mCall (m__law_lists n) 2 [] (mCons (mVarF 1) mNil)) [1]) (mVarF 0)))
theorem ok__law_lists (T : Tx mg g fd iA iF) : ∀ n : Nat, FnOk P w g.K mg base (L2.CX P w) (1 + n) (g.F 68) (fd 68) P__law_lists (spF g 1 2 (m__law_lists n))
  | 0 => okNo rfl
  | n + 1 => okF T.F__law_lists sc__law_lists rfl rfl (by decide) fun cdv A outer s H E hr =>
    have ih := ok__law_lists T n
    (pss_mOne (ps_mRet (pe_mIfE (pt_mTru rfl (pe_mIsa2 .list .tuple rfl (by rfl) T.z_isinstance (pe_mVarF (pv 0)) (tyP (by rfl) T.z_list (by decide +kernel)) (tyP (by rfl) T.z_tuple (by decide +kernel))) (by intro _; rfl)) (pe_mLc (own := [("bit", 1)]) rfl sc__law_lists.nd (pi_mSeq rfl (pe_mVarF (pv 0))) (blkOk_by (own := [("bit", 1)]) (N := N__law_lists) (sc := defScope s__law_lists) (by decide +kernel)) (gok_name 1) (by decide) (fun _ _ _ _ _ => (pg_name (i := 1) sc__law_lists.nd rfl (by first | exact Or.inl rfl | exact Or.inr rfl))) (fun _ _ _ _ _ => pts_mNil) (fun _ _ _ _ _ => (pe_mCall ih hr (by rfl) T.m__law_lists T.F__law_lists.kp T.b__law_lists .nil passF (dfl := []) (fun _ _ => RpA.nil) hE_no (pa_mCons (pe_mVarF (pv 1)) pa_mNil) (len_cons len_nil) rfl))) (pe_mVarF (pv 0)))))
def m__law_same : Nat → MS
  | 0 => fun _ => .no
  | n + 1 => (mSeq (mIf (mTru (mIsa2 .list .tuple (mVarF 1)))
    (mSeq (mIf (mOrT (mB (mBin neD (mIsa .list (mVarF 0)) (mIsa .list (mVarF 1)))) (mB (mBin neD (mIsa .tuple (mVarF 0)) (mIsa .tuple (mVarF 1)))))
    (mRet (mC (.bl false)))
    mSkip)
    (mRet (mAnd (mBin eqD (mFun lenD (mCons (mVarF 0) mNil)) (mFun lenD (mCons (mVarF 1) mNil))) (mFun allD (mCons (mLc (miFun zipF (mCons (mVarF 0) (mCons (mVarF 1) mNil))) (tgTup [2, 3]) mYes (mCall (m__law_same n) 4 [] (mCons (mVarF 2) (mCons (mVarF 3) mNil))) [2, 3]) mNil)))))
    mSkip)
    (mSeq (mIf (mOrT (mB (mBin (isND false) (mVarF 1) (mC .non))) (mTru (mIsa2 .bool .str (mVarF 1))))
    (mRet (mAnd (mBin eqD (mVarF 0) (mVarF 1)) (mAnd (mBin eqD (mIsa .bool (mVarF 0)) (mIsa .bool (mVarF 1))) (mBin eqD (mBin (isND false) (mVarF 0) (mC .non)) (mBin (isND false) (mVarF 1) (mC .non))))))
    mSkip)
    (mRet (mAnd (mIsa .int (mVarF 0)) (mAnd (mNot (mIsa .bool (mVarF 0))) (mBin eqD (mVarF 0) (mVarF 1)))))))
theorem ok__law_same (T : Tx mg g fd iA iF) : ∀ n : Nat, FnOk P w g.K mg base (L2.CX P w) (1 + n) (g.F 69) (fd 69) P__law_same (spF g 2 4 (m__law_same n))
  | 0 => okNo rfl
  | n + 1 => okF T.F__law_same sc__law_same rfl rfl (by decide) fun cdv A outer s H E hr =>
    have ih := ok__law_same T n
    (pss_mCons (ps_mIf (pt_mTru rfl (pe_mIsa2 .list .tuple rfl (by rfl) T.z_isinstance (pe_mVarF (pv 1)) (tyP (by rfl) T.z_list (by decide +kernel)) (tyP (by rfl) T.z_tuple (by decide +kernel))) (by intro _; rfl))
    (pss_mCons (ps_mIf (PW.pt (pw_mOr (pt_mCmp (op_neP hr.units) rop_ne (pe_mIsa .list rfl (by rfl) T.z_isinstance (pe_mVarF (pv 0)) (tyP (by rfl) T.z_list (by decide +kernel))) (pe_mIsa .list rfl (by rfl) T.z_isinstance (pe_mVarF (pv 1)) (tyP (by rfl) T.z_list (by decide +kernel))) (nomark _)) (pw_or1 (pt_mCmp (op_neP hr.units) rop_ne (pe_mIsa .tuple rfl (by rfl) T.z_isinstance (pe_mVarF (pv 0)) (tyP (by rfl) T.z_tuple (by decide +kernel))) (pe_mIsa .tuple rfl (by rfl) T.z_isinstance (pe_mVarF (pv 1)) (tyP (by rfl) T.z_tuple (by decide +kernel))) (nomark _)))))
    (pss_mOne (ps_mRet pe_mBl))
    pss_mNil)
    (pss_mOne (ps_mRet (pe_mAnd rfl (pe_mCmp (op_eqP hr.units) rop_eq (pe_mCallB call_len rop_len (by rfl) T.z_len (by decide +kernel) (pa_mCons (pe_mVarF (pv 0)) pa_mNil)) (pe_mCallB call_len rop_len (by rfl) T.z_len (by decide +kernel) (pa_mCons (pe_mVarF (pv 1)) pa_mNil)) (nomark _)) (pe_one (pe_mCallB (cr_all rfl) rop_all (by rfl) T.z_all (by decide +kernel) (pa_mCons (pe_mLc (own := [("mine", 2), ("its", 3)]) rfl sc__law_same.nd (pi_mZip rfl (by rfl) T.z_zip (pa_mCons (pe_mVarF (pv 0)) (pa_mCons (pe_mVarF (pv 1)) pa_mNil))) (blkOk_by (own := [("mine", 2), ("its", 3)]) (N := N__law_same) (sc := defScope s__law_same) (by decide +kernel)) (gok_tup [2, 3]) (by decide) (fun _ _ _ _ _ => (pg_tup (by rfl) (pgs_cons (pg_name (i := 2) sc__law_same.nd rfl (by first | exact Or.inl rfl | exact Or.inr rfl)) (pgs_cons (pg_name (i := 3) sc__law_same.nd rfl (by first | exact Or.inl rfl | exact Or.inr rfl)) pgs_nil)))) (fun _ _ _ _ _ => pts_mNil) (fun _ _ _ _ _ => (pe_mCall ih hr (by rfl) T.m__law_same T.F__law_same.kp T.b__law_same .nil passF (dfl := []) (fun _ _ => RpA.nil) hE_no (pa_mCons (pe_mVarF (pv 2)) (pa_mCons (pe_mVarF (pv 3)) pa_mNil)) (len_cons (len_cons len_nil)) rfl))) pa_mNil)))))))
    pss_mNil)
    (pss_mCons (ps_mIf (PW.pt (pw_mOr (pt_mCmp op_isN rop_isN (pe_mVarF (pv 1)) pe_mNon (nomark _)) (pw_or1 (pt_mTru rfl (pe_mIsa2 .bool .str rfl (by rfl) T.z_isinstance (pe_mVarF (pv 1)) (tyP (by rfl) T.z_bool (by decide +kernel)) (tyP (by rfl) T.z_str (by decide +kernel))) (by intro _; rfl)))))
    (pss_mOne (ps_mRet (pe_mAnd rfl (pe_mCmp (op_eqP hr.units) rop_eq (pe_mVarF (pv 0)) (pe_mVarF (pv 1)) (nomark _)) (pe_mAnd rfl (pe_mCmp (op_eqP hr.units) rop_eq (pe_mIsa .bool rfl (by rfl) T.z_isinstance (pe_mVarF (pv 0)) (tyP (by rfl) T.z_bool (by decide +kernel))) (pe_mIsa .bool rfl (by rfl) T.z_isinstance (pe_mVarF (pv 1)) (tyP (by rfl) T.z_bool (by decide +kernel))) (nomark _)) (pe_one (pe_mCmp (op_eqP hr.units) rop_eq (pe_mCmp op_isN rop_isN (pe_mVarF (pv 0)) pe_mNon (nomark _)) (pe_mCmp op_isN rop_isN (pe_mVarF (pv 1)) pe_mNon (nomark _)) (nomark _)))))))
    pss_mNil)
    (pss_mOne (ps_mRet (pe_mAnd rfl (pe_mIsa .int rfl (by rfl) T.z_isinstance (pe_mVarF (pv 0)) (tyP (by rfl) T.z_int (by decide +kernel))) (pe_mAnd rfl (pe_mNot rfl (pe_mIsa .bool rfl (by rfl) T.z_isinstance (pe_mVarF (pv 0)) (tyP (by rfl) T.z_bool (by decide +kernel)))) (pe_one (pe_mCmp (op_eqP hr.units) rop_eq (pe_mVarF (pv 0)) (pe_mVarF (pv 1)) (nomark _)))))))))
def m__law_nook : MS := (mRet (mTup (mCons (mTup (mCons (mC (.int 0)) (mCons (mC (.int 0)) mNil))) (mCons (mTup (mCons (mC (.int 0)) (mCons (mC (.int 1)) mNil))) (mCons (mTup (mCons (mC (.int 1)) (mCons (mC (.int 0)) mNil))) (mCons (mTup (mCons (mC (.int 1)) (mCons (mC (.int 1)) mNil))) (mCons (mTup (mCons (mC (.int 2)) (mCons (mC (.int 0)) mNil))) mNil)))))))
theorem ok__law_nook (T : Tx mg g fd iA iF) : FnOk P w g.K mg base (L2.CX P w) 1 (g.F 70) (fd 70) P__law_nook (spF g 0 0 m__law_nook) :=
  okF T.F__law_nook sc__law_nook rfl rfl (by decide) fun cdv A outer s H E hr =>
    (pss_mOne (ps_mRet (pe_mTup (pa_mCons (pe_mTup (pa_mCons pe_mInt (pa_mCons pe_mInt pa_mNil))) (pa_mCons (pe_mTup (pa_mCons pe_mInt (pa_mCons pe_mInt pa_mNil))) (pa_mCons (pe_mTup (pa_mCons pe_mInt (pa_mCons pe_mInt pa_mNil))) (pa_mCons (pe_mTup (pa_mCons pe_mInt (pa_mCons pe_mInt pa_mNil))) (pa_mCons (pe_mTup (pa_mCons pe_mInt (pa_mCons pe_mInt pa_mNil))) pa_mNil))))))))
def tx__law_room_asked_0 : Nat → Option (MS × Nat)
  | 38 => some (m_rim, 1)
  | 39 => some (m_inner, 1)
  | 40 => some (m_points, 1)
  | 42 => some (m_sizes, 1)
  | 45 => some (m_pieces, 1)
  | 47 => some (m_pillars, 10)
  | 48 => some (m_box_of, 4)
  | 61 => some (m_spots, 1)
  | _ => none
theorem h_tx__law_room_asked_0 (T : Tx mg g fd iA iF) : ∀ j ms n, tx__law_room_asked_0 j = some (ms, n) → ∃ fd ps, FnOk P w g.K mg base (L2.CX P w) 11 (g.F j) fd ps (spF g 1 n ms) ∧ PySem.W.keepIn g.K (.ref (g.F j)) = true ∧ Binds g.K fd ps [] ∧ ps.length = 1 := by
  intro j ms n h
  unfold tx__law_room_asked_0 at h
  split at h
  · cases Option.some.inj h; exact ⟨_, _, (ok_rim T).mono (by decide), T.F_rim.kp, T.b_rim, rfl⟩
  · cases Option.some.inj h; exact ⟨_, _, (ok_inner T).mono (by decide), T.F_inner.kp, T.b_inner, rfl⟩
  · cases Option.some.inj h; exact ⟨_, _, (ok_points T).mono (by decide), T.F_points.kp, T.b_points, rfl⟩
  · cases Option.some.inj h; exact ⟨_, _, (ok_sizes T).mono (by decide), T.F_sizes.kp, T.b_sizes, rfl⟩
  · cases Option.some.inj h; exact ⟨_, _, (ok_pieces T).mono (by decide), T.F_pieces.kp, T.b_pieces, rfl⟩
  · cases Option.some.inj h; exact ⟨_, _, (ok_pillars T).mono (by decide), T.F_pillars.kp, T.b_pillars, rfl⟩
  · cases Option.some.inj h; exact ⟨_, _, (ok_box_of T).mono (by decide), T.F_box_of.kp, T.b_box_of, rfl⟩
  · cases Option.some.inj h; exact ⟨_, _, (ok_spots T).mono (by decide), T.F_spots.kp, T.b_spots, rfl⟩
  · cases h
def tx__law_room_asked_1 : Nat → Option (MS × Nat)
  | 35 => some (m_is_square, 2)
  | 36 => some (m_beside, 2)
  | 37 => some (m_around, 2)
  | 50 => some (m_square_more, 2)
  | 51 => some (m_square_less, 3)
  | 56 => some (m_kinds_at, 2)
  | 62 => some (m_spots_at, 2)
  | _ => none
theorem h_tx__law_room_asked_1 (T : Tx mg g fd iA iF) : ∀ j ms n, tx__law_room_asked_1 j = some (ms, n) → ∃ fd ps, FnOk P w g.K mg base (L2.CX P w) 8 (g.F j) fd ps (spF g 2 n ms) ∧ PySem.W.keepIn g.K (.ref (g.F j)) = true ∧ Binds g.K fd ps [] ∧ ps.length = 2 := by
  intro j ms n h
  unfold tx__law_room_asked_1 at h
  split at h
  · cases Option.some.inj h; exact ⟨_, _, (ok_is_square T).mono (by decide), T.F_is_square.kp, T.b_is_square, rfl⟩
  · cases Option.some.inj h; exact ⟨_, _, (ok_beside T).mono (by decide), T.F_beside.kp, T.b_beside, rfl⟩
  · cases Option.some.inj h; exact ⟨_, _, (ok_around T).mono (by decide), T.F_around.kp, T.b_around, rfl⟩
  · cases Option.some.inj h; exact ⟨_, _, (ok_square_more T).mono (by decide), T.F_square_more.kp, T.b_square_more, rfl⟩
  · cases Option.some.inj h; exact ⟨_, _, (ok_square_less T).mono (by decide), T.F_square_less.kp, T.b_square_less, rfl⟩
  · cases Option.some.inj h; exact ⟨_, _, (ok_kinds_at T).mono (by decide), T.F_kinds_at.kp, T.b_kinds_at, rfl⟩
  · cases Option.some.inj h; exact ⟨_, _, (ok_spots_at T).mono (by decide), T.F_spots_at.kp, T.b_spots_at, rfl⟩
  · cases h
def tx__law_room_asked_2 : Nat → Option (MS × Nat)
  | 55 => some (m_is_spot, 2)
  | 64 => some (m_fitting, 7)
  | _ => none
theorem h_tx__law_room_asked_2 (T : Tx mg g fd iA iF) : ∀ j ms n, tx__law_room_asked_2 j = some (ms, n) → ∃ fd ps, FnOk P w g.K mg base (L2.CX P w) 8 (g.F j) fd ps (spF g 2 n ms) ∧ PySem.W.keepIn g.K (.ref (g.F j)) = true ∧ Binds g.K fd ps [] ∧ ps.length = 2 := by
  intro j ms n h
  unfold tx__law_room_asked_2 at h
  split at h
  · cases Option.some.inj h; exact ⟨_, _, (ok_is_spot T).mono (by decide), T.F_is_spot.kp, T.b_is_spot, rfl⟩
  · cases Option.some.inj h; exact ⟨_, _, (ok_fitting T).mono (by decide), T.F_fitting.kp, T.b_fitting, rfl⟩
  · cases h
def m__law_room_asked : MS := (mSeq (mIf (mB (mBin ltD (mVarF 0) (mC (.int 8))))
    (mRet (mCallX tx__law_room_asked_0 (mBin ixD (mTup (mCons (mC (.fn 38)) (mCons (mC (.fn 39)) (mCons (mC (.fn 40)) (mCons (mC (.fn 42)) (mCons (mC (.fn 45)) (mCons (mC (.fn 47)) (mCons (mC (.fn 48)) (mCons (mC (.fn 61)) mNil))))))))) (mVarF 0)) (mCons (mVarF 1) mNil)))
    mSkip)
    (mSeq (mIf (mB (mBin ltD (mVarF 0) (mC (.int 15))))
    (mRet (mCallX tx__law_room_asked_1 (mBin ixD (mTup (mCons (mC (.fn 35)) (mCons (mC (.fn 36)) (mCons (mC (.fn 37)) (mCons (mC (.fn 50)) (mCons (mC (.fn 51)) (mCons (mC (.fn 56)) (mCons (mC (.fn 62)) mNil)))))))) (mBin subD (mVarF 0) (mC (.int 8)))) (mCons (mVarF 1) (mCons (mTup (mCons (mC (.int 0)) (mCons (mC (.int 0)) mNil))) mNil))))
    mSkip)
    (mSeq (mIf (mB (mBin ltD (mVarF 0) (mC (.int 17))))
    (mRet (mIfE (mB (mBin eqD (mVarF 0) (mC (.int 15)))) (mCall m_about 3 [] (mCons (mVarF 1) (mCons (mTup (mCons (mC (.int 1)) (mCons (mC (.int 1)) mNil))) mNil))) (mCall m_is_laid 2 [] (mCons (mVarF 1) (mCons (mTup (mCons (mC (.int 0)) mNil)) mNil)))))
    mSkip)
    (mSeq (mIf (mB (mBin ltD (mVarF 0) (mC (.int 19))))
    (mRet (mCallX tx__law_room_asked_2 (mBin ixD (mTup (mCons (mC (.fn 55)) (mCons (mC (.fn 64)) mNil))) (mBin subD (mVarF 0) (mC (.int 17)))) (mCons (mVarF 1) (mCons (mTup (mCons (mTup (mCons (mC (.int 0)) (mCons (mC (.int 0)) mNil))) mNil)) mNil))))
    mSkip)
    (mRet (mIfE (mB (mBin eqD (mVarF 0) (mC (.int 19)))) (mCall m_joined_with 4 [] (mCons (mVarF 1) (mCons (mTup (mCons (mC (.int 0)) (mCons (mC (.int 0)) mNil))) (mCons (mC (.int 0)) mNil)))) (mCall m_fits_at 5 [] (mCons (mVarF 1) (mCons (mTup (mCons (mC (.int 0)) mNil)) (mCons (mTup (mCons (mTup (mCons (mC (.int 0)) (mCons (mC (.int 0)) mNil))) mNil)) mNil))))))))))
theorem ok__law_room_asked (T : Tx mg g fd iA iF) : FnOk P w g.K mg base (L2.CX P w) 12 (g.F 71) (fd 71) P__law_room_asked (spF g 2 2 m__law_room_asked) :=
  okF T.F__law_room_asked sc__law_room_asked rfl rfl (by decide) fun cdv A outer s H E hr =>
    have tk := takes_of (E := E) rfl rfl rfl rfl
    (pss_mCons (ps_mIf (pt_mCmp (OpR.or (op_lt) (op_ltP hr.units)) ROp.ord (pe_mVarF (pv 0)) pe_mInt (nomark _))
    (pss_mOne (ps_mRet (pe_mCallXE (np := 1) (h_tx__law_room_asked_0 T) (hr.mono (by decide)) (pe_mIx rfl (hu_of hr) (pe_mTup (pa_mCons (pe_mGf T.m_rim (by rfl)) (pa_mCons (pe_mGf T.m_inner (by rfl)) (pa_mCons (pe_mGf T.m_points (by rfl)) (pa_mCons (pe_mGf T.m_sizes (by rfl)) (pa_mCons (pe_mGf T.m_pieces (by rfl)) (pa_mCons (pe_mGf T.m_pillars (by rfl)) (pa_mCons (pe_mGf T.m_box_of (by rfl)) (pa_mCons (pe_mGf T.m_spots (by rfl)) pa_mNil))))))))) (pe_mVarF (pv 0)) (fun _ _ => rfl) (fun _ _ => rfl)) tk (pa_mCons (pe_mVarF (pv 1)) pa_mNil) (len_cons len_nil))))
    pss_mNil)
    (pss_mCons (ps_mIf (pt_mCmp (OpR.or (op_lt) (op_ltP hr.units)) ROp.ord (pe_mVarF (pv 0)) pe_mInt (nomark _))
    (pss_mOne (ps_mRet (pe_mCallXE (np := 2) (h_tx__law_room_asked_1 T) (hr.mono (by decide)) (pe_mIx rfl (hu_of hr) (pe_mTup (pa_mCons (pe_mGf T.m_is_square (by rfl)) (pa_mCons (pe_mGf T.m_beside (by rfl)) (pa_mCons (pe_mGf T.m_around (by rfl)) (pa_mCons (pe_mGf T.m_square_more (by rfl)) (pa_mCons (pe_mGf T.m_square_less (by rfl)) (pa_mCons (pe_mGf T.m_kinds_at (by rfl)) (pa_mCons (pe_mGf T.m_spots_at (by rfl)) pa_mNil)))))))) (pe_mBin op_sub rop_sub (pe_mVarF (pv 0)) pe_mInt) (fun _ _ => rfl) (fun _ _ => rfl)) tk (pa_mCons (pe_mVarF (pv 1)) (pa_mCons (pe_mTup (pa_mCons pe_mInt (pa_mCons pe_mInt pa_mNil))) pa_mNil)) (len_cons (len_cons len_nil)))))
    pss_mNil)
    (pss_mCons (ps_mIf (pt_mCmp (OpR.or (op_lt) (op_ltP hr.units)) ROp.ord (pe_mVarF (pv 0)) pe_mInt (nomark _))
    (pss_mOne (ps_mRet (pe_mIfE (pt_mCmp (op_eqP hr.units) rop_eq (pe_mVarF (pv 0)) pe_mInt (nomark _)) (pe_mCall (ok_about T) (hr.mono (by decide)) (by rfl) T.m_about T.F_about.kp T.b_about .nil (passT tk) (dfl := []) (fun _ _ => RpA.nil) hE_of (pa_mCons (pe_mVarF (pv 1)) (pa_mCons (pe_mTup (pa_mCons pe_mInt (pa_mCons pe_mInt pa_mNil))) pa_mNil)) (len_cons (len_cons len_nil)) rfl) (pe_mCall (ok_is_laid T) (hr.mono (by decide)) (by rfl) T.m_is_laid T.F_is_laid.kp T.b_is_laid .nil (passT tk) (dfl := []) (fun _ _ => RpA.nil) hE_of (pa_mCons (pe_mVarF (pv 1)) (pa_mCons (pe_mTup (pa_mCons pe_mInt pa_mNil)) pa_mNil)) (len_cons (len_cons len_nil)) rfl))))
    pss_mNil)
    (pss_mCons (ps_mIf (pt_mCmp (OpR.or (op_lt) (op_ltP hr.units)) ROp.ord (pe_mVarF (pv 0)) pe_mInt (nomark _))
    (pss_mOne (ps_mRet (pe_mCallXE (np := 2) (h_tx__law_room_asked_2 T) (hr.mono (by decide)) (pe_mIx rfl (hu_of hr) (pe_mTup (pa_mCons (pe_mGf T.m_is_spot (by rfl)) (pa_mCons (pe_mGf T.m_fitting (by rfl)) pa_mNil))) (pe_mBin op_sub rop_sub (pe_mVarF (pv 0)) pe_mInt) (fun _ _ => rfl) (fun _ _ => rfl)) tk (pa_mCons (pe_mVarF (pv 1)) (pa_mCons (pe_mTup (pa_mCons (pe_mTup (pa_mCons pe_mInt (pa_mCons pe_mInt pa_mNil))) pa_mNil)) pa_mNil)) (len_cons (len_cons len_nil)))))
    pss_mNil)
    (pss_mOne (ps_mRet (pe_mIfE (pt_mCmp (op_eqP hr.units) rop_eq (pe_mVarF (pv 0)) pe_mInt (nomark _)) (pe_mCall (ok_joined_with T) (hr.mono (by decide)) (by rfl) T.m_joined_with T.F_joined_with.kp T.b_joined_with .nil (passT tk) (dfl := []) (fun _ _ => RpA.nil) hE_of (pa_mCons (pe_mVarF (pv 1)) (pa_mCons (pe_mTup (pa_mCons pe_mInt (pa_mCons pe_mInt pa_mNil))) (pa_mCons pe_mInt pa_mNil))) (len_cons (len_cons (len_cons len_nil))) rfl) (pe_mCall (ok_fits_at T) (hr.mono (by decide)) (by rfl) T.m_fits_at T.F_fits_at.kp T.b_fits_at .nil (passT tk) (dfl := []) (fun _ _ => RpA.nil) hE_of (pa_mCons (pe_mVarF (pv 1)) (pa_mCons (pe_mTup (pa_mCons pe_mInt pa_mNil)) (pa_mCons (pe_mTup (pa_mCons (pe_mTup (pa_mCons pe_mInt (pa_mCons pe_mInt pa_mNil))) pa_mNil)) pa_mNil))) (len_cons (len_cons (len_cons len_nil))) rfl))))))))
def tx__law_part_asked_0 : Nat → Option (MS × Nat)
  | 36 => some (m_beside, 2)
  | 37 => some (m_around, 2)
  | 51 => some (m_square_less, 3)
  | 56 => some (m_kinds_at, 2)
  | 62 => some (m_spots_at, 2)
  | 41 => some (m_about, 3)
  | _ => none
theorem h_tx__law_part_asked_0 (T : Tx mg g fd iA iF) : ∀ j ms n, tx__law_part_asked_0 j = some (ms, n) → ∃ fd ps, FnOk P w g.K mg base (L2.CX P w) 8 (g.F j) fd ps (spF g 2 n ms) ∧ PySem.W.keepIn g.K (.ref (g.F j)) = true ∧ Binds g.K fd ps [] ∧ ps.length = 2 := by
  intro j ms n h
  unfold tx__law_part_asked_0 at h
  split at h
  · cases Option.some.inj h; exact ⟨_, _, (ok_beside T).mono (by decide), T.F_beside.kp, T.b_beside, rfl⟩
  · cases Option.some.inj h; exact ⟨_, _, (ok_around T).mono (by decide), T.F_around.kp, T.b_around, rfl⟩
  · cases Option.some.inj h; exact ⟨_, _, (ok_square_less T).mono (by decide), T.F_square_less.kp, T.b_square_less, rfl⟩
  · cases Option.some.inj h; exact ⟨_, _, (ok_kinds_at T).mono (by decide), T.F_kinds_at.kp, T.b_kinds_at, rfl⟩
  · cases Option.some.inj h; exact ⟨_, _, (ok_spots_at T).mono (by decide), T.F_spots_at.kp, T.b_spots_at, rfl⟩
  · cases Option.some.inj h; exact ⟨_, _, (ok_about T).mono (by decide), T.F_about.kp, T.b_about, rfl⟩
  · cases h
def m__law_part_asked : MS := (mSeq (mAsg 2 (mCall m__law_nook 0 [] mNil))
    (mSeq (mIf (mB (mBin ltD (mVarF 0) (mC (.int 6))))
    (mRet (mCallX tx__law_part_asked_0 (mBin ixD (mTup (mCons (mC (.fn 36)) (mCons (mC (.fn 37)) (mCons (mC (.fn 51)) (mCons (mC (.fn 56)) (mCons (mC (.fn 62)) (mCons (mC (.fn 41)) mNil))))))) (mVarF 0)) (mCons (mVarF 2) (mCons (mVarF 1) mNil))))
    mSkip)
    (mSeq (mIf (mB (mBin ltD (mVarF 0) (mC (.int 8))))
    (mRet (mIfE (mB (mBin eqD (mVarF 0) (mC (.int 6)))) (mCall m_joined_with 4 [] (mCons (mVarF 2) (mCons (mVarF 1) (mCons (mC (.int 0)) mNil)))) (mCall m_square_more 2 [] (mCons (mVarF 2) (mCons (mVarF 1) mNil)))))
    mSkip)
    (mRet (mIfE (mB (mBin eqD (mVarF 0) (mC (.int 8)))) (mCall m_fitting 7 [] (mCons (mVarF 2) (mCons (mVarF 1) mNil))) (mCall m_fits_at 5 [] (mCons (mVarF 2) (mCons (mBin mulD (mTup (mCons (mC (.int 0)) mNil)) (mC (.int 5))) (mCons (mVarF 1) mNil)))))))))
theorem ok__law_part_asked (T : Tx mg g fd iA iF) : FnOk P w g.K mg base (L2.CX P w) 9 (g.F 72) (fd 72) P__law_part_asked (spF g 2 3 m__law_part_asked) :=
  okF T.F__law_part_asked sc__law_part_asked rfl rfl (by decide) fun cdv A outer s H E hr =>
    have tk := takes_of (E := E) rfl rfl rfl rfl
    (pss_mCons (ps_mAsg (i := 2) sc__law_part_asked.nd rfl (by first | exact Or.inl rfl | exact Or.inr rfl) (pe_mCall0 (ok__law_nook T) (hr.mono (by decide)) (by rfl) T.m__law_nook T.F__law_nook.kp T.b__law_nook (passT tk) hE_of))
    (pss_mCons (ps_mIf (pt_mCmp (OpR.or (op_lt) (op_ltP hr.units)) ROp.ord (pe_mVarF (pv 0)) pe_mInt (nomark _))
    (pss_mOne (ps_mRet (pe_mCallXE (np := 2) (h_tx__law_part_asked_0 T) (hr.mono (by decide)) (pe_mIx rfl (hu_of hr) (pe_mTup (pa_mCons (pe_mGf T.m_beside (by rfl)) (pa_mCons (pe_mGf T.m_around (by rfl)) (pa_mCons (pe_mGf T.m_square_less (by rfl)) (pa_mCons (pe_mGf T.m_kinds_at (by rfl)) (pa_mCons (pe_mGf T.m_spots_at (by rfl)) (pa_mCons (pe_mGf T.m_about (by rfl)) pa_mNil))))))) (pe_mVarF (pv 0)) (fun _ _ => rfl) (fun _ _ => rfl)) tk (pa_mCons (pe_mVarF (pv 2)) (pa_mCons (pe_mVarF (pv 1)) pa_mNil)) (len_cons (len_cons len_nil)))))
    pss_mNil)
    (pss_mCons (ps_mIf (pt_mCmp (OpR.or (op_lt) (op_ltP hr.units)) ROp.ord (pe_mVarF (pv 0)) pe_mInt (nomark _))
    (pss_mOne (ps_mRet (pe_mIfE (pt_mCmp (op_eqP hr.units) rop_eq (pe_mVarF (pv 0)) pe_mInt (nomark _)) (pe_mCall (ok_joined_with T) (hr.mono (by decide)) (by rfl) T.m_joined_with T.F_joined_with.kp T.b_joined_with .nil (passT tk) (dfl := []) (fun _ _ => RpA.nil) hE_of (pa_mCons (pe_mVarF (pv 2)) (pa_mCons (pe_mVarF (pv 1)) (pa_mCons pe_mInt pa_mNil))) (len_cons (len_cons (len_cons len_nil))) rfl) (pe_mCall (ok_square_more T) (hr.mono (by decide)) (by rfl) T.m_square_more T.F_square_more.kp T.b_square_more .nil (passT tk) (dfl := []) (fun _ _ => RpA.nil) hE_of (pa_mCons (pe_mVarF (pv 2)) (pa_mCons (pe_mVarF (pv 1)) pa_mNil)) (len_cons (len_cons len_nil)) rfl))))
    pss_mNil)
    (pss_mOne (ps_mRet (pe_mIfE (pt_mCmp (op_eqP hr.units) rop_eq (pe_mVarF (pv 0)) pe_mInt (nomark _)) (pe_mCall (ok_fitting T) (hr.mono (by decide)) (by rfl) T.m_fitting T.F_fitting.kp T.b_fitting .nil (passT tk) (dfl := []) (fun _ _ => RpA.nil) hE_of (pa_mCons (pe_mVarF (pv 2)) (pa_mCons (pe_mVarF (pv 1)) pa_mNil)) (len_cons (len_cons len_nil)) rfl) (pe_mCall (ok_fits_at T) (hr.mono (by decide)) (by rfl) T.m_fits_at T.F_fits_at.kp T.b_fits_at .nil (passT tk) (dfl := []) (fun _ _ => RpA.nil) hE_of (pa_mCons (pe_mVarF (pv 2)) (pa_mCons (pe_mBin op_mulU rop_mul (pe_mTup (pa_mCons pe_mInt pa_mNil)) pe_mInt) (pa_mCons (pe_mVarF (pv 1)) pa_mNil))) (len_cons (len_cons (len_cons len_nil))) rfl)))))))
def m__law_kind_asked : MS := (mSeq (mIf (mB (mBin ltD (mVarF 0) (mC (.int 2))))
    (mRet (mIfE (mB (mBin eqD (mVarF 0) (mC (.int 0)))) (mCall m_fits_east 2 [] (mCons (mVarF 1) (mCons (mC (.int 0)) mNil))) (mCall m_fits_east 2 [] (mCons (mC (.int 0)) (mCons (mVarF 1) mNil)))))
    mSkip)
    (mSeq (mIf (mB (mBin ltD (mVarF 0) (mC (.int 4))))
    (mRet (mIfE (mB (mBin eqD (mVarF 0) (mC (.int 2)))) (mCall m_fits_south 2 [] (mCons (mVarF 1) (mCons (mC (.int 0)) mNil))) (mCall m_fits_south 2 [] (mCons (mC (.int 0)) (mCons (mVarF 1) mNil)))))
    mSkip)
    (mRet (mCall m_joined_with 4 [] (mCons (mCall m__law_nook 0 [] mNil) (mCons (mTup (mCons (mC (.int 9)) (mCons (mC (.int 9)) mNil))) (mCons (mVarF 1) mNil)))))))
theorem ok__law_kind_asked (T : Tx mg g fd iA iF) : FnOk P w g.K mg base (L2.CX P w) 9 (g.F 73) (fd 73) P__law_kind_asked (spF g 2 2 m__law_kind_asked) :=
  okF T.F__law_kind_asked sc__law_kind_asked rfl rfl (by decide) fun cdv A outer s H E hr =>
    have tk := takes_of (E := E) rfl rfl rfl rfl
    (pss_mCons (ps_mIf (pt_mCmp (OpR.or (op_lt) (op_ltP hr.units)) ROp.ord (pe_mVarF (pv 0)) pe_mInt (nomark _))
    (pss_mOne (ps_mRet (pe_mIfE (pt_mCmp (op_eqP hr.units) rop_eq (pe_mVarF (pv 0)) pe_mInt (nomark _)) (pe_mCall (ok_fits_east T) (hr.mono (by decide)) (by rfl) T.m_fits_east T.F_fits_east.kp T.b_fits_east .nil (passT tk) (dfl := []) (fun _ _ => RpA.nil) hE_of (pa_mCons (pe_mVarF (pv 1)) (pa_mCons pe_mInt pa_mNil)) (len_cons (len_cons len_nil)) rfl) (pe_mCall (ok_fits_east T) (hr.mono (by decide)) (by rfl) T.m_fits_east T.F_fits_east.kp T.b_fits_east .nil (passT tk) (dfl := []) (fun _ _ => RpA.nil) hE_of (pa_mCons pe_mInt (pa_mCons (pe_mVarF (pv 1)) pa_mNil)) (len_cons (len_cons len_nil)) rfl))))
    pss_mNil)
    (pss_mCons (ps_mIf (pt_mCmp (OpR.or (op_lt) (op_ltP hr.units)) ROp.ord (pe_mVarF (pv 0)) pe_mInt (nomark _))
    (pss_mOne (ps_mRet (pe_mIfE (pt_mCmp (op_eqP hr.units) rop_eq (pe_mVarF (pv 0)) pe_mInt (nomark _)) (pe_mCall (ok_fits_south T) (hr.mono (by decide)) (by rfl) T.m_fits_south T.F_fits_south.kp T.b_fits_south .nil (passT tk) (dfl := []) (fun _ _ => RpA.nil) hE_of (pa_mCons (pe_mVarF (pv 1)) (pa_mCons pe_mInt pa_mNil)) (len_cons (len_cons len_nil)) rfl) (pe_mCall (ok_fits_south T) (hr.mono (by decide)) (by rfl) T.m_fits_south T.F_fits_south.kp T.b_fits_south .nil (passT tk) (dfl := []) (fun _ _ => RpA.nil) hE_of (pa_mCons pe_mInt (pa_mCons (pe_mVarF (pv 1)) pa_mNil)) (len_cons (len_cons len_nil)) rfl))))
    pss_mNil)
    (pss_mOne (ps_mRet (pe_mCall (ok_joined_with T) (hr.mono (by decide)) (by rfl) T.m_joined_with T.F_joined_with.kp T.b_joined_with .nil (passT tk) (dfl := []) (fun _ _ => RpA.nil) hE_of (pa_mCons (pe_mCall0 (ok__law_nook T) (hr.mono (by decide)) (by rfl) T.m__law_nook T.F__law_nook.kp T.b__law_nook (passT tk) hE_of) (pa_mCons (pe_mTup (pa_mCons pe_mInt (pa_mCons pe_mInt pa_mNil))) (pa_mCons (pe_mVarF (pv 1)) pa_mNil))) (len_cons (len_cons (len_cons len_nil))) rfl)))))
def m__law_laid_asked : MS := (mRet (mIfE (mB (mBin eqD (mVarF 0) (mC (.int 0)))) (mCall m_fits_at 5 [] (mCons (mCall m__law_nook 0 [] mNil) (mCons (mVarF 1) (mCons (mTup (mCons (mTup (mCons (mC (.int 0)) (mCons (mC (.int 0)) mNil))) mNil)) mNil)))) (mCall m_point_fits 1 [] (mCons (mVarF 1) mNil))))
theorem ok__law_laid_asked (T : Tx mg g fd iA iF) : FnOk P w g.K mg base (L2.CX P w) 9 (g.F 74) (fd 74) P__law_laid_asked (spF g 2 2 m__law_laid_asked) :=
  okF T.F__law_laid_asked sc__law_laid_asked rfl rfl (by decide) fun cdv A outer s H E hr =>
    have tk := takes_of (E := E) rfl rfl rfl rfl
    (pss_mOne (ps_mRet (pe_mIfE (pt_mCmp (op_eqP hr.units) rop_eq (pe_mVarF (pv 0)) pe_mInt (nomark _)) (pe_mCall (ok_fits_at T) (hr.mono (by decide)) (by rfl) T.m_fits_at T.F_fits_at.kp T.b_fits_at .nil (passT tk) (dfl := []) (fun _ _ => RpA.nil) hE_of (pa_mCons (pe_mCall0 (ok__law_nook T) (hr.mono (by decide)) (by rfl) T.m__law_nook T.F__law_nook.kp T.b__law_nook (passT tk) hE_of) (pa_mCons (pe_mVarF (pv 1)) (pa_mCons (pe_mTup (pa_mCons (pe_mTup (pa_mCons pe_mInt (pa_mCons pe_mInt pa_mNil))) pa_mNil)) pa_mNil))) (len_cons (len_cons (len_cons len_nil))) rfl) (pe_mCall (ok_point_fits T) (hr.mono (by decide)) (by rfl) T.m_point_fits T.F_point_fits.kp T.b_point_fits .nil (passT tk) (dfl := []) (fun _ _ => RpA.nil) hE_of (pa_mCons (pe_mVarF (pv 1)) pa_mNil) (len_cons len_nil) rfl))))
def m__law_box_asked : MS := (mRet (mIfE (mB (mBin eqD (mVarF 0) (mC (.int 0)))) (mCall m_boxed 4 [] (mCons (mVarF 1) (mCons (mC (.int 2)) mNil))) (mCall m_boxed 4 [] (mCons (mC (.int 2)) (mCons (mVarF 1) mNil)))))
theorem ok__law_box_asked (T : Tx mg g fd iA iF) : FnOk P w g.K mg base (L2.CX P w) 5 (g.F 75) (fd 75) P__law_box_asked (spF g 2 2 m__law_box_asked) :=
  okF T.F__law_box_asked sc__law_box_asked rfl rfl (by decide) fun cdv A outer s H E hr =>
    have tk := takes_of (E := E) rfl rfl rfl rfl
    (pss_mOne (ps_mRet (pe_mIfE (pt_mCmp (op_eqP hr.units) rop_eq (pe_mVarF (pv 0)) pe_mInt (nomark _)) (pe_mCall (ok_boxed T) (hr.mono (by decide)) (by rfl) T.m_boxed T.F_boxed.kp T.b_boxed .nil (passT tk) (dfl := []) (fun _ _ => RpA.nil) hE_of (pa_mCons (pe_mVarF (pv 1)) (pa_mCons pe_mInt pa_mNil)) (len_cons (len_cons len_nil)) rfl) (pe_mCall (ok_boxed T) (hr.mono (by decide)) (by rfl) T.m_boxed T.F_boxed.kp T.b_boxed .nil (passT tk) (dfl := []) (fun _ _ => RpA.nil) hE_of (pa_mCons pe_mInt (pa_mCons (pe_mVarF (pv 1)) pa_mNil)) (len_cons (len_cons len_nil)) rfl))))
def tx__law_heard_0 : Nat → Option (MS × Nat)
  | 71 => some (m__law_room_asked, 2)
  | 72 => some (m__law_part_asked, 3)
  | 73 => some (m__law_kind_asked, 2)
  | 74 => some (m__law_laid_asked, 2)
  | 75 => some (m__law_box_asked, 2)
  | _ => none
theorem h_tx__law_heard_0 (T : Tx mg g fd iA iF) : ∀ j ms n, tx__law_heard_0 j = some (ms, n) → ∃ fd ps, FnOk P w g.K mg base (L2.CX P w) 12 (g.F j) fd ps (spF g 2 n ms) ∧ PySem.W.keepIn g.K (.ref (g.F j)) = true ∧ Binds g.K fd ps [] ∧ ps.length = 2 := by
  intro j ms n h
  unfold tx__law_heard_0 at h
  split at h
  · cases Option.some.inj h; exact ⟨_, _, (ok__law_room_asked T).mono (by decide), T.F__law_room_asked.kp, T.b__law_room_asked, rfl⟩
  · cases Option.some.inj h; exact ⟨_, _, (ok__law_part_asked T).mono (by decide), T.F__law_part_asked.kp, T.b__law_part_asked, rfl⟩
  · cases Option.some.inj h; exact ⟨_, _, (ok__law_kind_asked T).mono (by decide), T.F__law_kind_asked.kp, T.b__law_kind_asked, rfl⟩
  · cases Option.some.inj h; exact ⟨_, _, (ok__law_laid_asked T).mono (by decide), T.F__law_laid_asked.kp, T.b__law_laid_asked, rfl⟩
  · cases Option.some.inj h; exact ⟨_, _, (ok__law_box_asked T).mono (by decide), T.F__law_box_asked.kp, T.b__law_box_asked, rfl⟩
  · cases h
def m__law_heard : MS := (mSeq (mAsg 3 (mC .non))
    (mSeq (mTry 4 3 (mCallX tx__law_heard_0 (mBin ixD (mTup (mCons (mC (.fn 71)) (mCons (mC (.fn 72)) (mCons (mC (.fn 73)) (mCons (mC (.fn 74)) (mCons (mC (.fn 75)) mNil)))))) (mVarF 0)) (mCons (mVarF 1) (mCons (mVarF 2) mNil))) [(1, some 4, (fun vs => mLst (mCons (mC (.str (Str.ofString "square"))) (mCons (fld1 vs) (mCons (mC (.bl true)) mNil))))), (0, some 4, (fun vs => mLst (mCons (mC (.str (Str.ofString "point"))) (mCons (fld1 vs) (mCons (mC (.bl true)) mNil))))), (2, some 4, (fun vs => mLst (mCons (mC (.str (Str.ofString "cannot"))) (mCons (mC (.bl true)) mNil)))), (3, some 4, (fun vs => mLst (mCons (mC (.str (Str.ofString "unfit"))) (mCons (mC (.bl true)) mNil))))])
    (mRet (mVarF 3))))
theorem ok__law_heard (T : Tx mg g fd iA iF) : FnOk P w g.K mg base (L2.CX P w) 13 (g.F 76) (fd 76) P__law_heard (spF g 3 5 m__law_heard) :=
  okF T.F__law_heard sc__law_heard rfl rfl (by decide) fun cdv A outer s H E hr =>
    have tk := takes_of (E := E) rfl rfl rfl rfl
    (pss_mCons (ps_mAsg (i := 3) sc__law_heard.nd rfl (by first | exact Or.inl rfl | exact Or.inr rfl) pe_mNon)
    (pss_mCons (ps_mTry (nc := 4) (i := 3) (hs := [(1, some 4, (fun vs => mLst (mCons (mC (.str (Str.ofString "square"))) (mCons (fld1 vs) (mCons (mC (.bl true)) mNil))))), (0, some 4, (fun vs => mLst (mCons (mC (.str (Str.ofString "point"))) (mCons (fld1 vs) (mCons (mC (.bl true)) mNil))))), (2, some 4, (fun vs => mLst (mCons (mC (.str (Str.ofString "cannot"))) (mCons (mC (.bl true)) mNil)))), (3, some 4, (fun vs => mLst (mCons (mC (.str (Str.ofString "unfit"))) (mCons (mC (.bl true)) mNil))))]) rfl rfl rfl sc__law_heard.nd tk (exm_of (exm_all T) rfl) (fun W pn xe tkW _ => pss_one (ps_set (i := 3) sc__law_heard.nd rfl (by first | exact Or.inl rfl | exact Or.inr rfl) (pe_mCallXW (np := 2) (h_tx__law_heard_0 T) (hr.mono (by decide)) (pe_mIx rfl (hu_of hr) (pe_mTup (pa_mCons (pe_mGf T.m__law_room_asked (by rfl)) (pa_mCons (pe_mGf T.m__law_part_asked (by rfl)) (pa_mCons (pe_mGf T.m__law_kind_asked (by rfl)) (pa_mCons (pe_mGf T.m__law_laid_asked (by rfl)) (pa_mCons (pe_mGf T.m__law_box_asked (by rfl)) pa_mNil)))))) (pe_mVarF (pv 0)) (fun _ _ => rfl) (fun _ _ => rfl)) tkW (pa_mCons (pe_mVarF (pv 1)) (pa_mCons (pe_mVarF (pv 2)) pa_mNil)) (len_cons (len_cons len_nil))))) (cls_as (g := g) (i := 3) (c := 1) (ie := 4) (k := (fun vs => mLst (mCons (mC (.str (Str.ofString "square"))) (mCons (fld1 vs) (mCons (mC (.bl true)) mNil))))) ⟨by rfl, by decide, .inl T.n_NoSquare⟩ rfl rfl (fun a oe cls d pn hz hf => pss_one (ps_set (i := 3) sc__law_heard.nd rfl (by first | exact Or.inl rfl | exact Or.inr rfl) (pe_suLst (pa_suCons pe_suStr (pa_suCons (pe_suFld rfl T.S_NoSquare T.h_NoSquare T.f_NoSquare hz hf (pv 4)) (pa_suCons (pe_suIsa (t := "LookupError") rfl T.S_NoSquare T.q_NoSquare_LookupError hz hf (pv 4) (tyP (by rfl) T.z_LookupError (by decide +kernel)) (by rfl) T.z_isinstance) pa_suNil)))))) (cls_as (g := g) (i := 3) (c := 0) (ie := 4) (k := (fun vs => mLst (mCons (mC (.str (Str.ofString "point"))) (mCons (fld1 vs) (mCons (mC (.bl true)) mNil))))) ⟨by rfl, by decide, .inl T.n_NoPoint⟩ rfl rfl (fun a oe cls d pn hz hf => pss_one (ps_set (i := 3) sc__law_heard.nd rfl (by first | exact Or.inl rfl | exact Or.inr rfl) (pe_suLst (pa_suCons pe_suStr (pa_suCons (pe_suFld rfl T.S_NoPoint T.h_NoPoint T.f_NoPoint hz hf (pv 4)) (pa_suCons (pe_suIsa (t := "LookupError") rfl T.S_NoPoint T.q_NoPoint_LookupError hz hf (pv 4) (tyP (by rfl) T.z_LookupError (by decide +kernel)) (by rfl) T.z_isinstance) pa_suNil)))))) (cls_as (g := g) (i := 3) (c := 2) (ie := 4) (k := (fun vs => mLst (mCons (mC (.str (Str.ofString "cannot"))) (mCons (mC (.bl true)) mNil)))) ⟨by rfl, by decide, .inl T.n_CanNot⟩ rfl rfl (fun a oe cls d pn hz hf => pss_one (ps_set (i := 3) sc__law_heard.nd rfl (by first | exact Or.inl rfl | exact Or.inr rfl) (pe_suLst (pa_suCons pe_suStr (pa_suCons (pe_suIsa (t := "ValueError") rfl T.S_CanNot T.q_CanNot_ValueError hz hf (pv 4) (tyP (by rfl) T.z_ValueError (by decide +kernel)) (by rfl) T.z_isinstance) pa_suNil))))) (cls_as (g := g) (i := 3) (c := 3) (ie := 4) (k := (fun vs => mLst (mCons (mC (.str (Str.ofString "unfit"))) (mCons (mC (.bl true)) mNil)))) ⟨by rfl, by decide, .inl T.n_Unfit⟩ rfl rfl (fun a oe cls d pn hz hf => pss_one (ps_set (i := 3) sc__law_heard.nd rfl (by first | exact Or.inl rfl | exact Or.inr rfl) (pe_suLst (pa_suCons pe_suStr (pa_suCons (pe_suIsa (t := "ValueError") rfl T.S_Unfit T.q_Unfit_ValueError hz hf (pv 4) (tyP (by rfl) T.z_ValueError (by decide +kernel)) (by rfl) T.z_isinstance) pa_suNil))))) cls_nil)))))
    (pss_mOne (ps_mRet (pe_mVarF (pv 3))))))
def m__law_last_heard : MS := (mSeq (mAsg 1 (mC .non))
    (mSeq (mTry 4 1 (mCallW m_square_less 3 (mCons (mTup (mCons (mTup (mCons (mC (.int 4)) (mCons (mC (.int 4)) mNil))) mNil)) (mCons (mVarF 0) mNil))) [(2, none, (fun vs => mLst (mCons (mC (.str (Str.ofString "cannot"))) mNil))), (1, some 2, (fun vs => mLst (mCons (mC (.str (Str.ofString "square"))) (mCons (fld1 vs) mNil))))])
    (mRet (mVarF 1))))
theorem ok__law_last_heard (T : Tx mg g fd iA iF) : FnOk P w g.K mg base (L2.CX P w) 9 (g.F 77) (fd 77) P__law_last_heard (spF g 1 3 m__law_last_heard) :=
  okF T.F__law_last_heard sc__law_last_heard rfl rfl (by decide) fun cdv A outer s H E hr =>
    have tk := takes_of (E := E) rfl rfl rfl rfl
    (pss_mCons (ps_mAsg (i := 1) sc__law_last_heard.nd rfl (by first | exact Or.inl rfl | exact Or.inr rfl) pe_mNon)
    (pss_mCons (ps_mTry (nc := 4) (i := 1) (hs := [(2, none, (fun vs => mLst (mCons (mC (.str (Str.ofString "cannot"))) mNil))), (1, some 2, (fun vs => mLst (mCons (mC (.str (Str.ofString "square"))) (mCons (fld1 vs) mNil))))]) rfl rfl rfl sc__law_last_heard.nd tk (exm_of (exm_all T) rfl) (fun W pn xe tkW _ => pss_one (ps_set (i := 1) sc__law_last_heard.nd rfl (by first | exact Or.inl rfl | exact Or.inr rfl) (pe_mCallW (ok_square_less T) (hr.mono (by decide)) (by rfl) T.m_square_less T.F_square_less.kp T.b_square_less tkW (pa_mCons (pe_mTup (pa_mCons (pe_mTup (pa_mCons pe_mInt (pa_mCons pe_mInt pa_mNil))) pa_mNil)) (pa_mCons (pe_mVarF (pv 0)) pa_mNil)) (len_cons (len_cons len_nil)) rfl))) (cls_bare (g := g) (i := 1) (c := 2) (k := (fun vs => mLst (mCons (mC (.str (Str.ofString "cannot"))) mNil))) ⟨by rfl, by decide, .inl T.n_CanNot⟩ (fun a oe cls d pn hz hf => pss_one (ps_set (i := 1) sc__law_last_heard.nd rfl (by first | exact Or.inl rfl | exact Or.inr rfl) (pe_suLst (pa_suCons pe_suStr pa_suNil)))) (cls_as (g := g) (i := 1) (c := 1) (ie := 2) (k := (fun vs => mLst (mCons (mC (.str (Str.ofString "square"))) (mCons (fld1 vs) mNil)))) ⟨by rfl, by decide, .inl T.n_NoSquare⟩ rfl rfl (fun a oe cls d pn hz hf => pss_one (ps_set (i := 1) sc__law_last_heard.nd rfl (by first | exact Or.inl rfl | exact Or.inr rfl) (pe_suLst (pa_suCons pe_suStr (pa_suCons (pe_suFld rfl T.S_NoSquare T.h_NoSquare T.f_NoSquare hz hf (pv 2)) pa_suNil))))) cls_nil)))
    (pss_mOne (ps_mRet (pe_mVarF (pv 1))))))
def m__law_out_heard : MS := (mSeq (mAsg 0 (mC .non))
    (mSeq (mTry 4 0 (mCallW m_joined_with 4 (mCons (mCall m__law_nook 0 [] mNil) (mCons (mTup (mCons (mC (.int 2)) (mCons (mC (.int 0)) mNil))) (mCons (mC (.int 1)) mNil)))) [(2, none, (fun vs => mLst (mCons (mC (.str (Str.ofString "cannot"))) mNil)))])
    (mRet (mVarF 0))))
theorem ok__law_out_heard (T : Tx mg g fd iA iF) : FnOk P w g.K mg base (L2.CX P w) 9 (g.F 78) (fd 78) P__law_out_heard (spF g 0 1 m__law_out_heard) :=
  okF T.F__law_out_heard sc__law_out_heard rfl rfl (by decide) fun cdv A outer s H E hr =>
    have tk := takes_of (E := E) rfl rfl rfl rfl
    (pss_mCons (ps_mAsg (i := 0) sc__law_out_heard.nd rfl (by first | exact Or.inl rfl | exact Or.inr rfl) pe_mNon)
    (pss_mCons (ps_mTry (nc := 4) (i := 0) (hs := [(2, none, (fun vs => mLst (mCons (mC (.str (Str.ofString "cannot"))) mNil)))]) rfl rfl rfl sc__law_out_heard.nd tk (exm_of (exm_all T) rfl) (fun W pn xe tkW _ => pss_one (ps_set (i := 0) sc__law_out_heard.nd rfl (by first | exact Or.inl rfl | exact Or.inr rfl) (pe_mCallW (ok_joined_with T) (hr.mono (by decide)) (by rfl) T.m_joined_with T.F_joined_with.kp T.b_joined_with tkW (pa_mCons (pe_mCall0 (ok__law_nook T) (hr.mono (by decide)) (by rfl) T.m__law_nook T.F__law_nook.kp T.b__law_nook passF hE_no) (pa_mCons (pe_mTup (pa_mCons pe_mInt (pa_mCons pe_mInt pa_mNil))) (pa_mCons pe_mInt pa_mNil))) (len_cons (len_cons (len_cons len_nil))) rfl))) (cls_bare (g := g) (i := 0) (c := 2) (k := (fun vs => mLst (mCons (mC (.str (Str.ofString "cannot"))) mNil))) ⟨by rfl, by decide, .inl T.n_CanNot⟩ (fun a oe cls d pn hz hf => pss_one (ps_set (i := 0) sc__law_out_heard.nd rfl (by first | exact Or.inl rfl | exact Or.inr rfl) (pe_suLst (pa_suCons pe_suStr pa_suNil)))) cls_nil))
    (pss_mOne (ps_mRet (pe_mVarF (pv 0))))))
def m__law_none_right : MS := (mSeq (mIf (mNotT (mTru (mCall (m__law_same 8) 4 [] (mCons (mLst (mCons (mCall m__law_heard 5 [] (mCons (mC (.int 1)) (mCons (mC (.int 1)) (mCons (mTup (mCons (mC (.int 2)) (mCons (mC (.int 1)) mNil))) mNil)))) (mCons (mCall m__law_last_heard 3 [] (mCons (mTup (mCons (mC (.int 4)) (mCons (mC (.int 4)) mNil))) mNil)) mNil))) (mCons (mLst (mCons (mLst (mCons (mC (.str (Str.ofString "square"))) (mCons (mTup (mCons (mC (.int 2)) (mCons (mC (.int 1)) mNil))) (mCons (mC (.bl true)) mNil)))) (mCons (mLst (mCons (mC (.str (Str.ofString "cannot"))) mNil)) mNil))) mNil)))))
    (mRet (mC (.bl false)))
    mSkip)
    (mSeq (mPar [0, 1] (mCons (mLst mNil) (mCons (mLst mNil) mNil)))
    (mSeq (mFor (miSeq (mTup (mCons (mTup (mCons (mC (.int 2)) (mCons (mC (.int 1)) mNil))) (mCons (mTup (mCons (mNeg (mC (.int 1))) (mCons (mC (.int 0)) mNil))) (mCons (mTup (mCons (mC (.int 99)) (mCons (mC (.int 0)) mNil))) mNil))))) (tgName 2) (mSeq (mAsg 0 (mBin addD (mVarF 0) (mLc (miSeq (mTup (mCons (mC (.int 0)) (mCons (mC (.int 1)) (mCons (mC (.int 2)) (mCons (mC (.int 3)) (mCons (mC (.int 4)) (mCons (mC (.int 6)) mNil)))))))) (tgName 3) mYes (mCall m__law_heard 5 [] (mCons (mC (.int 1)) (mCons (mVarF 3) (mCons (mVarF 2) mNil)))) [3])))
    (mAsg 1 (mBin addD (mVarF 1) (mBin mulD (mLst (mCons (mLst (mCons (mC (.str (Str.ofString "square"))) (mCons (mVarF 2) (mCons (mC (.bl true)) mNil)))) mNil)) (mC (.int 6)))))))
    (mSeq (mAsg 0 (mBin addD (mVarF 0) (mLc (miSeq (mTup (mCons (mTup (mCons (mC (.int 2)) (mCons (mC (.int 1)) mNil))) (mCons (mTup (mCons (mC (.int 0)) (mCons (mC (.int 0)) mNil))) (mCons (mTup (mCons (mC (.int 1)) (mCons (mC (.int 0)) mNil))) (mCons (mTup (mCons (mNeg (mC (.int 1))) (mCons (mC (.int 1)) mNil))) (mCons (mTup (mCons (mC (.int 99)) (mCons (mC (.int 99)) mNil))) mNil))))))) (tgName 2) mYes (mCall m__law_heard 5 [] (mCons (mC (.int 1)) (mCons (mC (.int 5)) (mCons (mVarF 2) mNil)))) [2])))
    (mSeq (mAsg 1 (mBin addD (mVarF 1) (mLc (miSeq (mTup (mCons (mTup (mCons (mC (.int 2)) (mCons (mC (.int 1)) mNil))) (mCons (mTup (mCons (mC (.int 0)) (mCons (mC (.int 0)) mNil))) (mCons (mTup (mCons (mC (.int 1)) (mCons (mC (.int 0)) mNil))) (mCons (mTup (mCons (mNeg (mC (.int 1))) (mCons (mC (.int 1)) mNil))) (mCons (mTup (mCons (mC (.int 99)) (mCons (mC (.int 99)) mNil))) mNil))))))) (tgName 2) mYes (mLst (mCons (mC (.str (Str.ofString "point"))) (mCons (mVarF 2) (mCons (mC (.bl true)) mNil)))) [2])))
    (mSeq (mAsg 0 (mBin addD (mVarF 0) (mLst (mCons (mCall m__law_heard 5 [] (mCons (mC (.int 1)) (mCons (mC (.int 7)) (mCons (mTup (mCons (mC (.int 0)) (mCons (mC (.int 0)) mNil))) mNil)))) (mCons (mCall m__law_heard 5 [] (mCons (mC (.int 2)) (mCons (mC (.int 4)) (mCons (mC (.int 3)) mNil)))) (mCons (mCall m__law_heard 5 [] (mCons (mC (.int 1)) (mCons (mC (.int 6)) (mCons (mTup (mCons (mC (.int 2)) (mCons (mC (.int 0)) mNil))) mNil)))) (mCons (mCall m__law_last_heard 3 [] (mCons (mTup (mCons (mC (.int 5)) (mCons (mC (.int 5)) mNil))) mNil)) (mCons (mCall m__law_out_heard 1 [] mNil) mNil))))))))
    (mSeq (mAsg 1 (mBin addD (mVarF 1) (mLst (mCons (mLst (mCons (mC (.str (Str.ofString "cannot"))) (mCons (mC (.bl true)) mNil))) (mCons (mLst (mCons (mC (.str (Str.ofString "square"))) (mCons (mTup (mCons (mC (.int 9)) (mCons (mC (.int 9)) mNil))) (mCons (mC (.bl true)) mNil)))) (mCons (mC .non) (mCons (mLst (mCons (mC (.str (Str.ofString "square"))) (mCons (mTup (mCons (mC (.int 5)) (mCons (mC (.int 5)) mNil))) mNil))) (mCons (mLst (mCons (mC (.str (Str.ofString "cannot"))) mNil)) mNil))))))))
    (mRet (mCall (m__law_same 8) 4 [] (mCons (mVarF 0) (mCons (mVarF 1) mNil)))))))))))
theorem ok__law_none_right (T : Tx mg g fd iA iF) : FnOk P w g.K mg base (L2.CX P w) 14 (g.F 79) (fd 79) P__law_none_right (spF g 0 4 m__law_none_right) :=
  okF T.F__law_none_right sc__law_none_right rfl rfl (by decide) fun cdv A outer s H E hr =>
    have tk := takes_of (E := E) rfl rfl rfl rfl
    (pss_mCons (ps_mIf (pt_mNot (pt_mTru rfl (pe_mCall (ok__law_same T 8) (hr.mono (by decide)) (by rfl) T.m__law_same T.F__law_same.kp T.b__law_same .nil (passT tk) (dfl := []) (fun _ _ => RpA.nil) hE_of (pa_mCons (pe_mLst (pa_mCons (pe_mCall (ok__law_heard T) (hr.mono (by decide)) (by rfl) T.m__law_heard T.F__law_heard.kp T.b__law_heard .nil (passT tk) (dfl := []) (fun _ _ => RpA.nil) hE_of (pa_mCons pe_mInt (pa_mCons pe_mInt (pa_mCons (pe_mTup (pa_mCons pe_mInt (pa_mCons pe_mInt pa_mNil))) pa_mNil))) (len_cons (len_cons (len_cons len_nil))) rfl) (pa_mCons (pe_mCall (ok__law_last_heard T) (hr.mono (by decide)) (by rfl) T.m__law_last_heard T.F__law_last_heard.kp T.b__law_last_heard .nil (passT tk) (dfl := []) (fun _ _ => RpA.nil) hE_of (pa_mCons (pe_mTup (pa_mCons pe_mInt (pa_mCons pe_mInt pa_mNil))) pa_mNil) (len_cons len_nil) rfl) pa_mNil))) (pa_mCons (pe_mLst (pa_mCons (pe_mLst (pa_mCons pe_mStr (pa_mCons (pe_mTup (pa_mCons pe_mInt (pa_mCons pe_mInt pa_mNil))) (pa_mCons pe_mBl pa_mNil)))) (pa_mCons (pe_mLst (pa_mCons pe_mStr pa_mNil)) pa_mNil))) pa_mNil)) (len_cons (len_cons len_nil)) rfl) (by intro _; rfl)))
    (pss_mOne (ps_mRet pe_mBl))
    pss_mNil)
    (pss_mCons (ps_mPar (i := 0) (j := 1) rfl sc__law_none_right.nd rfl rfl (by decide) rfl rfl (pa_mCons (pe_mLst pa_mNil) (pa_mCons (pe_mLst pa_mNil) pa_mNil)) (by rfl))
    (pss_mCons (ps_mFor (passes_of rfl) rfl (pi_mSeq rfl (pe_mTup (pa_mCons (pe_mTup (pa_mCons pe_mInt (pa_mCons pe_mInt pa_mNil))) (pa_mCons (pe_mTup (pa_mCons (pe_mNeg pe_mInt) (pa_mCons pe_mInt pa_mNil))) (pa_mCons (pe_mTup (pa_mCons pe_mInt (pa_mCons pe_mInt pa_mNil))) pa_mNil))))) (pg_name (i := 2) sc__law_none_right.nd rfl (by first | exact Or.inl rfl | exact Or.inr rfl)) (gok_name 2) (pss_mCons (ps_mAsg (i := 0) sc__law_none_right.nd rfl (by first | exact Or.inl rfl | exact Or.inr rfl) (pe_mBin op_addU rop_add (pe_mVarF (pv 0)) (pe_mLc (own := [("door", 3)]) rfl sc__law_none_right.nd (pi_mSeq rfl (pe_mTup (pa_mCons pe_mInt (pa_mCons pe_mInt (pa_mCons pe_mInt (pa_mCons pe_mInt (pa_mCons pe_mInt (pa_mCons pe_mInt pa_mNil)))))))) (blkOk_by (own := [("door", 3)]) (N := N__law_none_right) (sc := defScope s__law_none_right) (by decide +kernel)) (gok_name 3) (by decide) (fun _ _ _ _ _ => (pg_name (i := 3) sc__law_none_right.nd rfl (by first | exact Or.inl rfl | exact Or.inr rfl))) (fun _ _ _ _ _ => pts_mNil) (fun _ _ _ _ _ => (pe_mCall (ok__law_heard T) (hr.mono (by decide)) (by rfl) T.m__law_heard T.F__law_heard.kp T.b__law_heard .nil passF (dfl := []) (fun _ _ => RpA.nil) hE_no (pa_mCons pe_mInt (pa_mCons (pe_mVarF (pv 3)) (pa_mCons (pe_mVarF (pv 2)) pa_mNil))) (len_cons (len_cons (len_cons len_nil))) rfl)))))
    (pss_mOne (ps_mAsg (i := 1) sc__law_none_right.nd rfl (by first | exact Or.inl rfl | exact Or.inr rfl) (pe_mBin op_addU rop_add (pe_mVarF (pv 1)) (pe_mBin op_mulU rop_mul (pe_mLst (pa_mCons (pe_mLst (pa_mCons pe_mStr (pa_mCons (pe_mVarF (pv 2)) (pa_mCons pe_mBl pa_mNil)))) pa_mNil)) pe_mInt))))))
    (pss_mCons (ps_mAsg (i := 0) sc__law_none_right.nd rfl (by first | exact Or.inl rfl | exact Or.inr rfl) (pe_mBin op_addU rop_add (pe_mVarF (pv 0)) (pe_mLc (own := [("own", 2)]) rfl sc__law_none_right.nd (pi_mSeq rfl (pe_mTup (pa_mCons (pe_mTup (pa_mCons pe_mInt (pa_mCons pe_mInt pa_mNil))) (pa_mCons (pe_mTup (pa_mCons pe_mInt (pa_mCons pe_mInt pa_mNil))) (pa_mCons (pe_mTup (pa_mCons pe_mInt (pa_mCons pe_mInt pa_mNil))) (pa_mCons (pe_mTup (pa_mCons (pe_mNeg pe_mInt) (pa_mCons pe_mInt pa_mNil))) (pa_mCons (pe_mTup (pa_mCons pe_mInt (pa_mCons pe_mInt pa_mNil))) pa_mNil))))))) (blkOk_by (own := [("own", 2)]) (N := N__law_none_right) (sc := defScope s__law_none_right) (by decide +kernel)) (gok_name 2) (by decide) (fun _ _ _ _ _ => (pg_name (i := 2) sc__law_none_right.nd rfl (by first | exact Or.inl rfl | exact Or.inr rfl))) (fun _ _ _ _ _ => pts_mNil) (fun _ _ _ _ _ => (pe_mCall (ok__law_heard T) (hr.mono (by decide)) (by rfl) T.m__law_heard T.F__law_heard.kp T.b__law_heard .nil passF (dfl := []) (fun _ _ => RpA.nil) hE_no (pa_mCons pe_mInt (pa_mCons pe_mInt (pa_mCons (pe_mVarF (pv 2)) pa_mNil))) (len_cons (len_cons (len_cons len_nil))) rfl)))))
    (pss_mCons (ps_mAsg (i := 1) sc__law_none_right.nd rfl (by first | exact Or.inl rfl | exact Or.inr rfl) (pe_mBin op_addU rop_add (pe_mVarF (pv 1)) (pe_mLc (own := [("own", 2)]) rfl sc__law_none_right.nd (pi_mSeq rfl (pe_mTup (pa_mCons (pe_mTup (pa_mCons pe_mInt (pa_mCons pe_mInt pa_mNil))) (pa_mCons (pe_mTup (pa_mCons pe_mInt (pa_mCons pe_mInt pa_mNil))) (pa_mCons (pe_mTup (pa_mCons pe_mInt (pa_mCons pe_mInt pa_mNil))) (pa_mCons (pe_mTup (pa_mCons (pe_mNeg pe_mInt) (pa_mCons pe_mInt pa_mNil))) (pa_mCons (pe_mTup (pa_mCons pe_mInt (pa_mCons pe_mInt pa_mNil))) pa_mNil))))))) (blkOk_by (own := [("own", 2)]) (N := N__law_none_right) (sc := defScope s__law_none_right) (by decide +kernel)) (gok_name 2) (by decide) (fun _ _ _ _ _ => (pg_name (i := 2) sc__law_none_right.nd rfl (by first | exact Or.inl rfl | exact Or.inr rfl))) (fun _ _ _ _ _ => pts_mNil) (fun _ _ _ _ _ => (pe_mLst (pa_mCons pe_mStr (pa_mCons (pe_mVarF (pv 2)) (pa_mCons pe_mBl pa_mNil))))))))
    (pss_mCons (ps_mAsg (i := 0) sc__law_none_right.nd rfl (by first | exact Or.inl rfl | exact Or.inr rfl) (pe_mBin op_addU rop_add (pe_mVarF (pv 0)) (pe_mLst (pa_mCons (pe_mCall (ok__law_heard T) (hr.mono (by decide)) (by rfl) T.m__law_heard T.F__law_heard.kp T.b__law_heard .nil (passT tk) (dfl := []) (fun _ _ => RpA.nil) hE_of (pa_mCons pe_mInt (pa_mCons pe_mInt (pa_mCons (pe_mTup (pa_mCons pe_mInt (pa_mCons pe_mInt pa_mNil))) pa_mNil))) (len_cons (len_cons (len_cons len_nil))) rfl) (pa_mCons (pe_mCall (ok__law_heard T) (hr.mono (by decide)) (by rfl) T.m__law_heard T.F__law_heard.kp T.b__law_heard .nil (passT tk) (dfl := []) (fun _ _ => RpA.nil) hE_of (pa_mCons pe_mInt (pa_mCons pe_mInt (pa_mCons pe_mInt pa_mNil))) (len_cons (len_cons (len_cons len_nil))) rfl) (pa_mCons (pe_mCall (ok__law_heard T) (hr.mono (by decide)) (by rfl) T.m__law_heard T.F__law_heard.kp T.b__law_heard .nil (passT tk) (dfl := []) (fun _ _ => RpA.nil) hE_of (pa_mCons pe_mInt (pa_mCons pe_mInt (pa_mCons (pe_mTup (pa_mCons pe_mInt (pa_mCons pe_mInt pa_mNil))) pa_mNil))) (len_cons (len_cons (len_cons len_nil))) rfl) (pa_mCons (pe_mCall (ok__law_last_heard T) (hr.mono (by decide)) (by rfl) T.m__law_last_heard T.F__law_last_heard.kp T.b__law_last_heard .nil (passT tk) (dfl := []) (fun _ _ => RpA.nil) hE_of (pa_mCons (pe_mTup (pa_mCons pe_mInt (pa_mCons pe_mInt pa_mNil))) pa_mNil) (len_cons len_nil) rfl) (pa_mCons (pe_mCall0 (ok__law_out_heard T) (hr.mono (by decide)) (by rfl) T.m__law_out_heard T.F__law_out_heard.kp T.b__law_out_heard (passT tk) hE_of) pa_mNil))))))))
    (pss_mCons (ps_mAsg (i := 1) sc__law_none_right.nd rfl (by first | exact Or.inl rfl | exact Or.inr rfl) (pe_mBin op_addU rop_add (pe_mVarF (pv 1)) (pe_mLst (pa_mCons (pe_mLst (pa_mCons pe_mStr (pa_mCons pe_mBl pa_mNil))) (pa_mCons (pe_mLst (pa_mCons pe_mStr (pa_mCons (pe_mTup (pa_mCons pe_mInt (pa_mCons pe_mInt pa_mNil))) (pa_mCons pe_mBl pa_mNil)))) (pa_mCons pe_mNon (pa_mCons (pe_mLst (pa_mCons pe_mStr (pa_mCons (pe_mTup (pa_mCons pe_mInt (pa_mCons pe_mInt pa_mNil))) pa_mNil))) (pa_mCons (pe_mLst (pa_mCons pe_mStr pa_mNil)) pa_mNil))))))))
    (pss_mOne (ps_mRet (pe_mCall (ok__law_same T 8) (hr.mono (by decide)) (by rfl) T.m__law_same T.F__law_same.kp T.b__law_same .nil (passT tk) (dfl := []) (fun _ _ => RpA.nil) hE_of (pa_mCons (pe_mVarF (pv 0)) (pa_mCons (pe_mVarF (pv 1)) pa_mNil)) (len_cons (len_cons len_nil)) rfl))))))))))
def m__law_refused_right : MS := (mSeq (mNew 0 (.l []))
    (mSeq (mFor (miSeq (mTup (mCons (mTup mNil) (mCons (mTup (mCons (mTup (mCons (mC (.int 1)) (mCons (mC (.int 0)) mNil))) (mCons (mTup (mCons (mC (.int 0)) (mCons (mC (.int 0)) mNil))) mNil))) (mCons (mTup (mCons (mTup (mCons (mC (.int 0)) (mCons (mC (.int 0)) mNil))) (mCons (mTup (mCons (mC (.int 0)) (mCons (mC (.int 0)) mNil))) mNil))) (mCons (mTup (mCons (mTup (mCons (mC (.int 0)) (mCons (mNeg (mC (.int 1))) mNil))) mNil)) (mCons (mTup (mCons (mTup (mCons (mC (.int 0)) (mCons (mC (.bl true)) mNil))) mNil)) (mCons (mC .non) (mCons (mC (.int 4)) (mCons (mC (.str (Str.ofString "00"))) (mCons (mTup (mCons (mTup (mCons (mC (.int 0)) (mCons (mC (.int 0)) mNil))) (mCons (mC (.int 3)) mNil))) mNil))))))))))) (tgName 1) (mSetF 0 (fAdd (mVarF 0) (mLc (miFun rangeF (mCons (mC (.int 21)) mNil)) (tgName 2) mYes (mCall m__law_heard 5 [] (mCons (mC (.int 0)) (mCons (mVarF 2) (mCons (mVarF 1) mNil)))) [2]))))
    (mSeq (mIf (mNotT (mTru (mCall (m__law_same 8) 4 [] (mCons (mVarF 0) (mCons (mBin mulD (mLst (mCons (mLst (mCons (mC (.str (Str.ofString "unfit"))) (mCons (mC (.bl true)) mNil))) mNil)) (mC (.int 189))) mNil)))))
    (mRet (mC (.bl false)))
    mSkip)
    (mSeq (mNew 0 (.l []))
    (mSeq (mFor (miSeq (mTup (mCons (mC .non) (mCons (mC (.int 3)) (mCons (mTup (mCons (mC (.int 0)) mNil)) (mCons (mTup (mCons (mC (.int 0)) (mCons (mC (.int 0)) (mCons (mC (.int 0)) mNil)))) (mCons (mTup (mCons (mC (.int 0)) (mCons (mC (.bl true)) mNil))) (mCons (mTup (mCons (mC (.str (Str.ofString "0"))) (mCons (mC (.int 0)) mNil))) (mCons (mC (.str (Str.ofString "00"))) mNil))))))))) (tgName 1) (mSetF 0 (fAdd (mVarF 0) (mLc (miFun rangeF (mCons (mC (.int 10)) mNil)) (tgName 2) mYes (mCall m__law_heard 5 [] (mCons (mC (.int 1)) (mCons (mVarF 2) (mCons (mVarF 1) mNil)))) [2]))))
    (mSeq (mSetF 0 (fAdd (mVarF 0) (mLst (mCons (mCall m__law_heard 5 [] (mCons (mC (.int 1)) (mCons (mC (.int 7)) (mCons (mTup (mCons (mNeg (mC (.int 1))) (mCons (mC (.int 0)) mNil))) mNil)))) (mCons (mCall m__law_heard 5 [] (mCons (mC (.int 1)) (mCons (mC (.int 7)) (mCons (mTup (mCons (mC (.int 0)) (mCons (mNeg (mC (.int 1))) mNil))) mNil)))) mNil)))))
    (mSeq (mFor (miSeq (mTup (mCons (mTup (mCons (mTup (mCons (mC (.int 0)) (mCons (mC (.int 0)) mNil))) (mCons (mTup (mCons (mC (.int 1)) (mCons (mC (.int 1)) mNil))) mNil))) (mCons (mTup (mCons (mTup (mCons (mC (.int 0)) (mCons (mC (.int 1)) mNil))) (mCons (mTup (mCons (mC (.int 0)) (mCons (mC (.int 0)) mNil))) mNil))) (mCons (mTup mNil) (mCons (mTup (mCons (mTup (mCons (mC (.int 2)) (mCons (mC (.int 1)) mNil))) mNil)) (mCons (mTup (mCons (mTup (mCons (mC (.int 0)) (mCons (mC (.int 0)) mNil))) (mCons (mTup (mCons (mC (.int 0)) (mCons (mC (.int 1)) mNil))) (mCons (mTup (mCons (mC (.int 1)) (mCons (mC (.int 0)) mNil))) mNil)))) mNil))))))) (tgName 1) (mSetF 0 (fAdd (mVarF 0) (mLc (miSeq (mTup (mCons (mC (.int 8)) (mCons (mC (.int 9)) mNil)))) (tgName 2) mYes (mCall m__law_heard 5 [] (mCons (mC (.int 1)) (mCons (mVarF 2) (mCons (mVarF 1) mNil)))) [2]))))
    (mSeq (mFor (miSeq (mTup (mCons (mC (.int 5)) (mCons (mNeg (mC (.int 1))) (mCons (mC (.bl true)) (mCons (mC .non) (mCons (mC (.str (Str.ofString "1"))) (mCons (mTup (mCons (mC (.int 1)) mNil)) mNil)))))))) (tgName 1) (mSetF 0 (fAdd (mVarF 0) (mLc (miFun rangeF (mCons (mC (.int 5)) mNil)) (tgName 2) mYes (mCall m__law_heard 5 [] (mCons (mC (.int 2)) (mCons (mVarF 2) (mCons (mVarF 1) mNil)))) [2]))))
    (mSeq (mFor (miSeq (mTup (mCons (mTup (mCons (mC (.int 0)) (mCons (mC (.int 0)) (mCons (mC (.int 0)) mNil)))) (mCons (mTup (mCons (mC (.int 5)) (mCons (mC (.int 0)) (mCons (mC (.int 0)) (mCons (mC (.int 0)) (mCons (mC (.int 0)) mNil)))))) (mCons (mTup (mCons (mC (.int 0)) (mCons (mC (.int 0)) (mCons (mC (.int 0)) (mCons (mC (.int 0)) (mCons (mC (.bl true)) mNil)))))) (mCons (mC .non) (mCons (mC (.int 0)) (mCons (mC (.str (Str.ofString "00000"))) mNil)))))))) (tgName 1) (mDrop (mApp 0 (mCall m__law_heard 5 [] (mCons (mC (.int 3)) (mCons (mC (.int 0)) (mCons (mVarF 1) mNil)))))))
    (mSeq (mFor (miSeq (mTup (mCons (mTup (mCons (mC (.int 0)) (mCons (mC (.int 0)) (mCons (mC (.int 0)) mNil)))) (mCons (mTup (mCons (mC (.int 0)) (mCons (mC (.int 0)) (mCons (mC (.int 0)) (mCons (mC (.int 5)) mNil))))) (mCons (mTup (mCons (mC (.int 0)) (mCons (mC (.int 0)) (mCons (mC (.int 0)) (mCons (mC (.bl true)) mNil))))) (mCons (mC .non) (mCons (mC (.int 0)) (mCons (mC (.str (Str.ofString "0000"))) (mCons (mBin mulD (mTup (mCons (mC (.int 0)) mNil)) (mC (.int 5))) mNil))))))))) (tgName 1) (mDrop (mApp 0 (mCall m__law_heard 5 [] (mCons (mC (.int 3)) (mCons (mC (.int 1)) (mCons (mVarF 1) mNil)))))))
    (mSeq (mFor (miSeq (mTup (mCons (mC (.int 0)) (mCons (mNeg (mC (.int 1))) (mCons (mC (.bl true)) (mCons (mC .non) (mCons (mC (.str (Str.ofString "2"))) mNil))))))) (tgName 1) (mSetF 0 (fAdd (mVarF 0) (mLc (miSeq (mTup (mCons (mC (.int 0)) (mCons (mC (.int 1)) mNil)))) (tgName 2) mYes (mCall m__law_heard 5 [] (mCons (mC (.int 4)) (mCons (mVarF 2) (mCons (mVarF 1) mNil)))) [2]))))
    (mRet (mCall (m__law_same 8) 4 [] (mCons (mVarF 0) (mCons (mBin mulD (mLst (mCons (mLst (mCons (mC (.str (Str.ofString "unfit"))) (mCons (mC (.bl true)) mNil))) mNil)) (mBin addD (mBin addD (mBin addD (mBin addD (mBin addD (mBin addD (mC (.int 70)) (mC (.int 2))) (mC (.int 10))) (mC (.int 30))) (mC (.int 6))) (mC (.int 7))) (mC (.int 10)))) mNil)))))))))))))))
theorem ok__law_refused_right (T : Tx mg g fd iA iF) : FnOk P w g.K mg base (L2.CX P w) 14 (g.F 80) (fd 80) P__law_refused_right (spF g 0 3 m__law_refused_right) :=
  okF T.F__law_refused_right sc__law_refused_right rfl rfl (by decide) fun cdv A outer s H E hr =>
    have tk := takes_of (E := E) rfl rfl rfl rfl
    (pss_mCons (ps_mNewL (i := 0) sc__law_refused_right.nd rfl (by first | exact Or.inl rfl | exact Or.inr rfl))
    (pss_mCons (ps_mFor (passes_of rfl) rfl (pi_mSeq rfl (pe_mTup (pa_mCons (pe_mTup pa_mNil) (pa_mCons (pe_mTup (pa_mCons (pe_mTup (pa_mCons pe_mInt (pa_mCons pe_mInt pa_mNil))) (pa_mCons (pe_mTup (pa_mCons pe_mInt (pa_mCons pe_mInt pa_mNil))) pa_mNil))) (pa_mCons (pe_mTup (pa_mCons (pe_mTup (pa_mCons pe_mInt (pa_mCons pe_mInt pa_mNil))) (pa_mCons (pe_mTup (pa_mCons pe_mInt (pa_mCons pe_mInt pa_mNil))) pa_mNil))) (pa_mCons (pe_mTup (pa_mCons (pe_mTup (pa_mCons pe_mInt (pa_mCons (pe_mNeg pe_mInt) pa_mNil))) pa_mNil)) (pa_mCons (pe_mTup (pa_mCons (pe_mTup (pa_mCons pe_mInt (pa_mCons pe_mBl pa_mNil))) pa_mNil)) (pa_mCons pe_mNon (pa_mCons pe_mInt (pa_mCons pe_mStr (pa_mCons (pe_mTup (pa_mCons (pe_mTup (pa_mCons pe_mInt (pa_mCons pe_mInt pa_mNil))) (pa_mCons pe_mInt pa_mNil))) pa_mNil))))))))))) (pg_name (i := 1) sc__law_refused_right.nd rfl (by first | exact Or.inl rfl | exact Or.inr rfl)) (gok_name 1) (pss_mOne (ps_mSetF (i := 0) sc__law_refused_right.nd rfl (by first | exact Or.inl rfl | exact Or.inr rfl) (pe_fAdd (pe_mVarF (pv 0)) (pe_mLc (own := [("door", 2)]) rfl sc__law_refused_right.nd (pi_mRange (by rfl) T.z_range (pa_mCons pe_mInt pa_mNil)) (blkOk_by (own := [("door", 2)]) (N := N__law_refused_right) (sc := defScope s__law_refused_right) (by decide +kernel)) (gok_name 2) (by decide) (fun _ _ _ _ _ => (pg_name (i := 2) sc__law_refused_right.nd rfl (by first | exact Or.inl rfl | exact Or.inr rfl))) (fun _ _ _ _ _ => pts_mNil) (fun _ _ _ _ _ => (pe_mCall (ok__law_heard T) (hr.mono (by decide)) (by rfl) T.m__law_heard T.F__law_heard.kp T.b__law_heard .nil passF (dfl := []) (fun _ _ => RpA.nil) hE_no (pa_mCons pe_mInt (pa_mCons (pe_mVarF (pv 2)) (pa_mCons (pe_mVarF (pv 1)) pa_mNil))) (len_cons (len_cons (len_cons len_nil))) rfl)))))))
    (pss_mCons (ps_mIf (pt_mNot (pt_mTru rfl (pe_mCall (ok__law_same T 8) (hr.mono (by decide)) (by rfl) T.m__law_same T.F__law_same.kp T.b__law_same .nil (passT tk) (dfl := []) (fun _ _ => RpA.nil) hE_of (pa_mCons (pe_mVarF (pv 0)) (pa_mCons (pe_mBin op_mulU rop_mul (pe_mLst (pa_mCons (pe_mLst (pa_mCons pe_mStr (pa_mCons pe_mBl pa_mNil))) pa_mNil)) pe_mInt) pa_mNil)) (len_cons (len_cons len_nil)) rfl) (by intro _; rfl)))
    (pss_mOne (ps_mRet pe_mBl))
    pss_mNil)
    (pss_mCons (ps_mNewL (i := 0) sc__law_refused_right.nd rfl (by first | exact Or.inl rfl | exact Or.inr rfl))
    (pss_mCons (ps_mFor (passes_of rfl) rfl (pi_mSeq rfl (pe_mTup (pa_mCons pe_mNon (pa_mCons pe_mInt (pa_mCons (pe_mTup (pa_mCons pe_mInt pa_mNil)) (pa_mCons (pe_mTup (pa_mCons pe_mInt (pa_mCons pe_mInt (pa_mCons pe_mInt pa_mNil)))) (pa_mCons (pe_mTup (pa_mCons pe_mInt (pa_mCons pe_mBl pa_mNil))) (pa_mCons (pe_mTup (pa_mCons pe_mStr (pa_mCons pe_mInt pa_mNil))) (pa_mCons pe_mStr pa_mNil))))))))) (pg_name (i := 1) sc__law_refused_right.nd rfl (by first | exact Or.inl rfl | exact Or.inr rfl)) (gok_name 1) (pss_mOne (ps_mSetF (i := 0) sc__law_refused_right.nd rfl (by first | exact Or.inl rfl | exact Or.inr rfl) (pe_fAdd (pe_mVarF (pv 0)) (pe_mLc (own := [("door", 2)]) rfl sc__law_refused_right.nd (pi_mRange (by rfl) T.z_range (pa_mCons pe_mInt pa_mNil)) (blkOk_by (own := [("door", 2)]) (N := N__law_refused_right) (sc := defScope s__law_refused_right) (by decide +kernel)) (gok_name 2) (by decide) (fun _ _ _ _ _ => (pg_name (i := 2) sc__law_refused_right.nd rfl (by first | exact Or.inl rfl | exact Or.inr rfl))) (fun _ _ _ _ _ => pts_mNil) (fun _ _ _ _ _ => (pe_mCall (ok__law_heard T) (hr.mono (by decide)) (by rfl) T.m__law_heard T.F__law_heard.kp T.b__law_heard .nil passF (dfl := []) (fun _ _ => RpA.nil) hE_no (pa_mCons pe_mInt (pa_mCons (pe_mVarF (pv 2)) (pa_mCons (pe_mVarF (pv 1)) pa_mNil))) (len_cons (len_cons (len_cons len_nil))) rfl)))))))
    (pss_mCons (ps_mSetF (i := 0) sc__law_refused_right.nd rfl (by first | exact Or.inl rfl | exact Or.inr rfl) (pe_fAdd (pe_mVarF (pv 0)) (pe_mLst (pa_mCons (pe_mCall (ok__law_heard T) (hr.mono (by decide)) (by rfl) T.m__law_heard T.F__law_heard.kp T.b__law_heard .nil (passT tk) (dfl := []) (fun _ _ => RpA.nil) hE_of (pa_mCons pe_mInt (pa_mCons pe_mInt (pa_mCons (pe_mTup (pa_mCons (pe_mNeg pe_mInt) (pa_mCons pe_mInt pa_mNil))) pa_mNil))) (len_cons (len_cons (len_cons len_nil))) rfl) (pa_mCons (pe_mCall (ok__law_heard T) (hr.mono (by decide)) (by rfl) T.m__law_heard T.F__law_heard.kp T.b__law_heard .nil (passT tk) (dfl := []) (fun _ _ => RpA.nil) hE_of (pa_mCons pe_mInt (pa_mCons pe_mInt (pa_mCons (pe_mTup (pa_mCons pe_mInt (pa_mCons (pe_mNeg pe_mInt) pa_mNil))) pa_mNil))) (len_cons (len_cons (len_cons len_nil))) rfl) pa_mNil)))))
    (pss_mCons (ps_mFor (passes_of rfl) rfl (pi_mSeq rfl (pe_mTup (pa_mCons (pe_mTup (pa_mCons (pe_mTup (pa_mCons pe_mInt (pa_mCons pe_mInt pa_mNil))) (pa_mCons (pe_mTup (pa_mCons pe_mInt (pa_mCons pe_mInt pa_mNil))) pa_mNil))) (pa_mCons (pe_mTup (pa_mCons (pe_mTup (pa_mCons pe_mInt (pa_mCons pe_mInt pa_mNil))) (pa_mCons (pe_mTup (pa_mCons pe_mInt (pa_mCons pe_mInt pa_mNil))) pa_mNil))) (pa_mCons (pe_mTup pa_mNil) (pa_mCons (pe_mTup (pa_mCons (pe_mTup (pa_mCons pe_mInt (pa_mCons pe_mInt pa_mNil))) pa_mNil)) (pa_mCons (pe_mTup (pa_mCons (pe_mTup (pa_mCons pe_mInt (pa_mCons pe_mInt pa_mNil))) (pa_mCons (pe_mTup (pa_mCons pe_mInt (pa_mCons pe_mInt pa_mNil))) (pa_mCons (pe_mTup (pa_mCons pe_mInt (pa_mCons pe_mInt pa_mNil))) pa_mNil)))) pa_mNil))))))) (pg_name (i := 1) sc__law_refused_right.nd rfl (by first | exact Or.inl rfl | exact Or.inr rfl)) (gok_name 1) (pss_mOne (ps_mSetF (i := 0) sc__law_refused_right.nd rfl (by first | exact Or.inl rfl | exact Or.inr rfl) (pe_fAdd (pe_mVarF (pv 0)) (pe_mLc (own := [("door", 2)]) rfl sc__law_refused_right.nd (pi_mSeq rfl (pe_mTup (pa_mCons pe_mInt (pa_mCons pe_mInt pa_mNil)))) (blkOk_by (own := [("door", 2)]) (N := N__law_refused_right) (sc := defScope s__law_refused_right) (by decide +kernel)) (gok_name 2) (by decide) (fun _ _ _ _ _ => (pg_name (i := 2) sc__law_refused_right.nd rfl (by first | exact Or.inl rfl | exact Or.inr rfl))) (fun _ _ _ _ _ => pts_mNil) (fun _ _ _ _ _ => (pe_mCall (ok__law_heard T) (hr.mono (by decide)) (by rfl) T.m__law_heard T.F__law_heard.kp T.b__law_heard .nil passF (dfl := []) (fun _ _ => RpA.nil) hE_no (pa_mCons pe_mInt (pa_mCons (pe_mVarF (pv 2)) (pa_mCons (pe_mVarF (pv 1)) pa_mNil))) (len_cons (len_cons (len_cons len_nil))) rfl)))))))
    (pss_mCons (ps_mFor (passes_of rfl) rfl (pi_mSeq rfl (pe_mTup (pa_mCons pe_mInt (pa_mCons (pe_mNeg pe_mInt) (pa_mCons pe_mBl (pa_mCons pe_mNon (pa_mCons pe_mStr (pa_mCons (pe_mTup (pa_mCons pe_mInt pa_mNil)) pa_mNil)))))))) (pg_name (i := 1) sc__law_refused_right.nd rfl (by first | exact Or.inl rfl | exact Or.inr rfl)) (gok_name 1) (pss_mOne (ps_mSetF (i := 0) sc__law_refused_right.nd rfl (by first | exact Or.inl rfl | exact Or.inr rfl) (pe_fAdd (pe_mVarF (pv 0)) (pe_mLc (own := [("door", 2)]) rfl sc__law_refused_right.nd (pi_mRange (by rfl) T.z_range (pa_mCons pe_mInt pa_mNil)) (blkOk_by (own := [("door", 2)]) (N := N__law_refused_right) (sc := defScope s__law_refused_right) (by decide +kernel)) (gok_name 2) (by decide) (fun _ _ _ _ _ => (pg_name (i := 2) sc__law_refused_right.nd rfl (by first | exact Or.inl rfl | exact Or.inr rfl))) (fun _ _ _ _ _ => pts_mNil) (fun _ _ _ _ _ => (pe_mCall (ok__law_heard T) (hr.mono (by decide)) (by rfl) T.m__law_heard T.F__law_heard.kp T.b__law_heard .nil passF (dfl := []) (fun _ _ => RpA.nil) hE_no (pa_mCons pe_mInt (pa_mCons (pe_mVarF (pv 2)) (pa_mCons (pe_mVarF (pv 1)) pa_mNil))) (len_cons (len_cons (len_cons len_nil))) rfl)))))))
    (pss_mCons (ps_mFor (passes_of rfl) rfl (pi_mSeq rfl (pe_mTup (pa_mCons (pe_mTup (pa_mCons pe_mInt (pa_mCons pe_mInt (pa_mCons pe_mInt pa_mNil)))) (pa_mCons (pe_mTup (pa_mCons pe_mInt (pa_mCons pe_mInt (pa_mCons pe_mInt (pa_mCons pe_mInt (pa_mCons pe_mInt pa_mNil)))))) (pa_mCons (pe_mTup (pa_mCons pe_mInt (pa_mCons pe_mInt (pa_mCons pe_mInt (pa_mCons pe_mInt (pa_mCons pe_mBl pa_mNil)))))) (pa_mCons pe_mNon (pa_mCons pe_mInt (pa_mCons pe_mStr pa_mNil)))))))) (pg_name (i := 1) sc__law_refused_right.nd rfl (by first | exact Or.inl rfl | exact Or.inr rfl)) (gok_name 1) (pss_mOne (ps_mDrop (pe_mApp rfl (pv 0) (pe_mCall (ok__law_heard T) (hr.mono (by decide)) (by rfl) T.m__law_heard T.F__law_heard.kp T.b__law_heard .nil (passT tk) (dfl := []) (fun _ _ => RpA.nil) hE_of (pa_mCons pe_mInt (pa_mCons pe_mInt (pa_mCons (pe_mVarF (pv 1)) pa_mNil))) (len_cons (len_cons (len_cons len_nil))) rfl)))))
    (pss_mCons (ps_mFor (passes_of rfl) rfl (pi_mSeq rfl (pe_mTup (pa_mCons (pe_mTup (pa_mCons pe_mInt (pa_mCons pe_mInt (pa_mCons pe_mInt pa_mNil)))) (pa_mCons (pe_mTup (pa_mCons pe_mInt (pa_mCons pe_mInt (pa_mCons pe_mInt (pa_mCons pe_mInt pa_mNil))))) (pa_mCons (pe_mTup (pa_mCons pe_mInt (pa_mCons pe_mInt (pa_mCons pe_mInt (pa_mCons pe_mBl pa_mNil))))) (pa_mCons pe_mNon (pa_mCons pe_mInt (pa_mCons pe_mStr (pa_mCons (pe_mBin op_mulU rop_mul (pe_mTup (pa_mCons pe_mInt pa_mNil)) pe_mInt) pa_mNil))))))))) (pg_name (i := 1) sc__law_refused_right.nd rfl (by first | exact Or.inl rfl | exact Or.inr rfl)) (gok_name 1) (pss_mOne (ps_mDrop (pe_mApp rfl (pv 0) (pe_mCall (ok__law_heard T) (hr.mono (by decide)) (by rfl) T.m__law_heard T.F__law_heard.kp T.b__law_heard .nil (passT tk) (dfl := []) (fun _ _ => RpA.nil) hE_of (pa_mCons pe_mInt (pa_mCons pe_mInt (pa_mCons (pe_mVarF (pv 1)) pa_mNil))) (len_cons (len_cons (len_cons len_nil))) rfl)))))
    (pss_mCons (ps_mFor (passes_of rfl) rfl (pi_mSeq rfl (pe_mTup (pa_mCons pe_mInt (pa_mCons (pe_mNeg pe_mInt) (pa_mCons pe_mBl (pa_mCons pe_mNon (pa_mCons pe_mStr pa_mNil))))))) (pg_name (i := 1) sc__law_refused_right.nd rfl (by first | exact Or.inl rfl | exact Or.inr rfl)) (gok_name 1) (pss_mOne (ps_mSetF (i := 0) sc__law_refused_right.nd rfl (by first | exact Or.inl rfl | exact Or.inr rfl) (pe_fAdd (pe_mVarF (pv 0)) (pe_mLc (own := [("door", 2)]) rfl sc__law_refused_right.nd (pi_mSeq rfl (pe_mTup (pa_mCons pe_mInt (pa_mCons pe_mInt pa_mNil)))) (blkOk_by (own := [("door", 2)]) (N := N__law_refused_right) (sc := defScope s__law_refused_right) (by decide +kernel)) (gok_name 2) (by decide) (fun _ _ _ _ _ => (pg_name (i := 2) sc__law_refused_right.nd rfl (by first | exact Or.inl rfl | exact Or.inr rfl))) (fun _ _ _ _ _ => pts_mNil) (fun _ _ _ _ _ => (pe_mCall (ok__law_heard T) (hr.mono (by decide)) (by rfl) T.m__law_heard T.F__law_heard.kp T.b__law_heard .nil passF (dfl := []) (fun _ _ => RpA.nil) hE_no (pa_mCons pe_mInt (pa_mCons (pe_mVarF (pv 2)) (pa_mCons (pe_mVarF (pv 1)) pa_mNil))) (len_cons (len_cons (len_cons len_nil))) rfl)))))))
    (pss_mOne (ps_mRet (pe_mCall (ok__law_same T 8) (hr.mono (by decide)) (by rfl) T.m__law_same T.F__law_same.kp T.b__law_same .nil (passT tk) (dfl := []) (fun _ _ => RpA.nil) hE_of (pa_mCons (pe_mVarF (pv 0)) (pa_mCons (pe_mBin op_mulU rop_mul (pe_mLst (pa_mCons (pe_mLst (pa_mCons pe_mStr (pa_mCons pe_mBl pa_mNil))) pa_mNil)) (pe_mBin op_addU rop_add (pe_mBin op_addU rop_add (pe_mBin op_addU rop_add (pe_mBin op_addU rop_add (pe_mBin op_addU rop_add (pe_mBin op_addU rop_add pe_mInt pe_mInt) pe_mInt) pe_mInt) pe_mInt) pe_mInt) pe_mInt)) pa_mNil)) (len_cons (len_cons len_nil)) rfl))))))))))))))
def m__law_soft_right : MS := (mSeq (mPar [0, 1] (mCons (mCall (m__law_lists 8) 2 [] (mCons (mCall m__law_nook 0 [] mNil) mNil)) (mCons (mLst (mCons (mLst (mCons (mC (.int 0)) (mCons (mC (.int 0)) mNil))) (mCons (mLst (mCons (mC (.int 0)) (mCons (mC (.int 1)) mNil))) (mCons (mLst (mCons (mC (.int 1)) (mCons (mC (.int 0)) mNil))) (mCons (mLst (mCons (mC (.int 1)) (mCons (mC (.int 1)) mNil))) mNil))))) mNil)))
    (mSeq (mAsg 2 (mLst (mCons (mCallK m_is_room 1 [0] (mCons (mTup (mCons (mTup (mCons (mC (.int 0)) (mCons (mC (.int 0)) mNil))) mNil)) mNil)) (mCons (mCallK m_is_square 2 [1, 0] (mCons (mTup (mCons (mC (.int 2)) (mCons (mC (.int 0)) mNil))) (mCons (mVarF 0) mNil))) (mCons (mCallK m_beside 2 [1, 0] (mCons (mLst (mCons (mC (.int 1)) (mCons (mC (.int 0)) mNil))) (mCons (mVarF 0) mNil))) (mCons (mCallK m_around 2 [1, 0] (mCons (mLst (mCons (mC (.int 0)) (mCons (mC (.int 1)) mNil))) (mCons (mVarF 0) mNil))) mNil))))))
    (mSeq (mAsg 2 (mBin addD (mVarF 2) (mLst (mCons (mCallK m_rim 1 [0] (mCons (mVarF 0) mNil)) (mCons (mCallK m_inner 1 [0] (mCons (mVarF 0) mNil)) (mCons (mCallK m_points 1 [0] (mCons (mVarF 0) mNil)) mNil))))))
    (mSeq (mAsg 3 (mLst (mCons (mC (.bl true)) (mCons (mC (.bl true)) (mCons (mTup (mCons (mTup (mCons (mC (.int 0)) (mCons (mC (.int 0)) mNil))) (mCons (mTup (mCons (mC (.int 1)) (mCons (mC (.int 1)) mNil))) (mCons (mTup (mCons (mC (.int 2)) (mCons (mC (.int 0)) mNil))) mNil)))) (mCons (mTup (mCons (mTup (mCons (mC (.int 0)) (mCons (mC (.int 0)) mNil))) (mCons (mTup (mCons (mC (.int 1)) (mCons (mC (.int 0)) mNil))) (mCons (mTup (mCons (mC (.int 1)) (mCons (mC (.int 1)) mNil))) mNil)))) (mCons (mCall m__law_nook 0 [] mNil) (mCons (mTup mNil) (mCons (mTup (mCons (mTup (mCons (mC (.int 1)) (mCons (mC (.int 1)) mNil))) mNil)) mNil)))))))))
    (mSeq (mAsg 2 (mBin addD (mVarF 2) (mLst (mCons (mCallK m_about 3 [1, 0] (mCons (mLst (mCons (mC (.int 1)) (mCons (mC (.int 1)) mNil))) (mCons (mVarF 0) mNil))) (mCons (mCallK m_sizes 1 [0] (mCons (mVarF 0) mNil)) (mCons (mCallK m_pieces 1 [0] (mCons (mVarF 0) mNil)) (mCons (mCallK m_pillars 10 [0] (mCons (mVarF 0) mNil)) (mCons (mCallK m_box_of 4 [0] (mCons (mVarF 0) mNil)) (mCons (mCallK m_boxed 4 [1, 0] (mCons (mC (.int 1)) (mCons (mC (.int 2)) mNil))) mNil)))))))))
    (mSeq (mAsg 2 (mBin addD (mVarF 2) (mLst (mCons (mCallK m_square_less 3 [1, 0] (mCons (mLst (mCons (mC (.int 2)) (mCons (mC (.int 0)) mNil))) (mCons (mVarF 0) mNil))) mNil))))
    (mSeq (mAsg 3 (mBin addD (mVarF 3) (mLst (mCons (mTup (mCons (mTup (mCons (mC (.int 0)) (mCons (mC (.int 0)) mNil))) (mCons (mTup (mCons (mC (.int 0)) (mCons (mC (.int 1)) mNil))) (mCons (mTup (mCons (mC (.int 1)) (mCons (mC (.int 0)) mNil))) (mCons (mTup (mCons (mC (.int 1)) (mCons (mC (.int 1)) mNil))) mNil))))) (mCons (mTup (mCons (mC (.int 5)) (mCons (mC (.int 5)) (mCons (mC (.int 1)) mNil)))) (mCons (mTup (mCons (mCall m__law_nook 0 [] mNil) mNil)) (mCons (mC (.int 0)) (mCons (mTup (mCons (mTup (mCons (mC (.int 0)) (mCons (mC (.int 0)) mNil))) (mCons (mTup (mCons (mC (.int 2)) (mCons (mC (.int 1)) mNil))) mNil))) (mCons (mTup (mCons (mTup (mCons (mC (.int 0)) (mCons (mC (.int 0)) mNil))) (mCons (mTup (mCons (mC (.int 0)) (mCons (mC (.int 1)) mNil))) mNil))) (mCons (mTup (mCons (mTup (mCons (mC (.int 0)) (mCons (mC (.int 0)) mNil))) (mCons (mTup (mCons (mC (.int 0)) (mCons (mC (.int 1)) mNil))) (mCons (mTup (mCons (mC (.int 1)) (mCons (mC (.int 0)) mNil))) (mCons (mTup (mCons (mC (.int 1)) (mCons (mC (.int 1)) mNil))) mNil))))) mNil))))))))))
    (mSeq (mAsg 2 (mBin addD (mVarF 2) (mLst (mCons (mCallK m_square_more 2 [1, 0] (mCons (mLst (mCons (mC (.int 2)) (mCons (mC (.int 1)) mNil))) (mCons (mVarF 0) mNil))) (mCons (mCallK m_is_kind 1 [0] (mCons (mC (.int 4)) mNil)) (mCons (mCallK m_is_laid 2 [1, 0] (mCons (mBin mulD (mTup (mCons (mC (.int 0)) mNil)) (mC (.int 5))) (mCons (mVarF 0) mNil))) (mCons (mCallK m_is_spot 2 [1, 0] (mCons (mTup (mCons (mTup (mCons (mC (.int 0)) (mCons (mC (.int 0)) mNil))) mNil)) (mCons (mVarF 0) mNil))) mNil)))))))
    (mSeq (mAsg 2 (mBin addD (mVarF 2) (mLst (mCons (mCallK m_kinds_at 2 [1, 0] (mCons (mLst (mCons (mC (.int 1)) (mCons (mC (.int 0)) mNil))) (mCons (mVarF 0) mNil))) (mCons (mCallK m_joined_with 4 [2, 1, 0] (mCons (mC (.int 1)) (mCons (mLst (mCons (mC (.int 1)) (mCons (mC (.int 0)) mNil))) (mCons (mVarF 0) mNil)))) mNil)))))
    (mSeq (mAsg 3 (mBin addD (mVarF 3) (mLst (mCons (mBin addD (mCall m__law_nook 0 [] mNil) (mTup (mCons (mTup (mCons (mC (.int 2)) (mCons (mC (.int 1)) mNil))) mNil))) (mCons (mC (.bl true)) (mCons (mC (.bl true)) (mCons (mC (.bl true)) (mCons (mTup (mCons (mC (.int 0)) (mCons (mC (.int 1)) (mCons (mC (.int 2)) (mCons (mC (.int 3)) mNil))))) (mCons (mTup (mCons (mC (.int 2)) (mCons (mC (.int 0)) mNil))) mNil)))))))))
    (mSeq (mAsg 2 (mBin addD (mVarF 2) (mLst (mCons (mCallK m_fits_east 2 [1, 0] (mCons (mC (.int 3)) (mCons (mC (.int 1)) mNil))) (mCons (mCallK m_fits_south 2 [1, 0] (mCons (mC (.int 4)) (mCons (mC (.int 2)) mNil))) (mCons (mCallK m_point_fits 1 [0] (mCons (mLst (mCons (mC (.int 1)) (mCons (mC (.int 0)) (mCons (mC (.int 3)) (mCons (mC (.int 0)) mNil))))) mNil)) (mCons (mFun lenD (mCons (mCallK m_spots 1 [0] (mCons (mVarF 1) mNil)) mNil)) mNil)))))))
    (mSeq (mAsg 2 (mBin addD (mVarF 2) (mLst (mCons (mFun lenD (mCons (mCallK m_spots_at 2 [1, 0] (mCons (mLst (mCons (mC (.int 1)) (mCons (mC (.int 1)) mNil))) (mCons (mVarF 1) mNil))) mNil)) (mCons (mCallK m_fits_at 5 [2, 1, 0] (mCons (mVarF 1) (mCons (mLst (mCons (mC (.int 1)) (mCons (mC (.int 1)) (mCons (mC (.int 3)) (mCons (mC (.int 3)) mNil))))) (mCons (mVarF 1) mNil)))) mNil)))))
    (mSeq (mAsg 3 (mBin addD (mVarF 3) (mLst (mCons (mC (.bl true)) (mCons (mC (.bl true)) (mCons (mC (.bl true)) (mCons (mC (.int 9)) (mCons (mC (.int 4)) (mCons (mC (.bl true)) mNil)))))))))
    (mSeq (mAsg 2 (mBin addD (mVarF 2) (mLst (mCons (mCallK m_fitting 7 [1, 0] (mCons (mLst (mCons (mLst (mCons (mC (.int 2)) (mCons (mC (.int 0)) mNil))) mNil)) (mCons (mVarF 0) mNil))) (mCons (mVarF 0) (mCons (mVarF 1) mNil))))))
    (mRet (mCall (m__law_same 8) 4 [] (mCons (mVarF 2) (mCons (mBin addD (mVarF 3) (mLst (mCons (mLst (mCons (mTup (mCons (mC (.int 0)) mNil)) (mCons (mTup (mCons (mC (.int 3)) mNil)) mNil))) (mCons (mCall (m__law_lists 8) 2 [] (mCons (mCall m__law_nook 0 [] mNil) mNil)) (mCons (mLst (mCons (mLst (mCons (mC (.int 0)) (mCons (mC (.int 0)) mNil))) (mCons (mLst (mCons (mC (.int 0)) (mCons (mC (.int 1)) mNil))) (mCons (mLst (mCons (mC (.int 1)) (mCons (mC (.int 0)) mNil))) (mCons (mLst (mCons (mC (.int 1)) (mCons (mC (.int 1)) mNil))) mNil))))) mNil))))) mNil))))))))))))))))))
theorem ok__law_soft_right (T : Tx mg g fd iA iF) : FnOk P w g.K mg base (L2.CX P w) 12 (g.F 81) (fd 81) P__law_soft_right (spF g 0 4 m__law_soft_right) :=
  okF T.F__law_soft_right sc__law_soft_right rfl rfl (by decide) fun cdv A outer s H E hr =>
    have tk := takes_of (E := E) rfl rfl rfl rfl
    (pss_mCons (ps_mPar (i := 0) (j := 1) rfl sc__law_soft_right.nd rfl rfl (by decide) rfl rfl (pa_mCons (pe_mCall (ok__law_lists T 8) (hr.mono (by decide)) (by rfl) T.m__law_lists T.F__law_lists.kp T.b__law_lists .nil (passT tk) (dfl := []) (fun _ _ => RpA.nil) hE_of (pa_mCons (pe_mCall0 (ok__law_nook T) (hr.mono (by decide)) (by rfl) T.m__law_nook T.F__law_nook.kp T.b__law_nook (passT tk) hE_of) pa_mNil) (len_cons len_nil) rfl) (pa_mCons (pe_mLst (pa_mCons (pe_mLst (pa_mCons pe_mInt (pa_mCons pe_mInt pa_mNil))) (pa_mCons (pe_mLst (pa_mCons pe_mInt (pa_mCons pe_mInt pa_mNil))) (pa_mCons (pe_mLst (pa_mCons pe_mInt (pa_mCons pe_mInt pa_mNil))) (pa_mCons (pe_mLst (pa_mCons pe_mInt (pa_mCons pe_mInt pa_mNil))) pa_mNil))))) pa_mNil)) (by rfl))
    (pss_mCons (ps_mAsg (i := 2) sc__law_soft_right.nd rfl (by first | exact Or.inl rfl | exact Or.inr rfl) (pe_mLst (pa_mCons (pe_mCallK (ok_is_room T) (hr.mono (by decide)) (by rfl) T.m_is_room T.F_is_room.kp T.w_is_room_0 (passT tk) hE_of (pk_mCons (pe_mTup (pa_mCons (pe_mTup (pa_mCons pe_mInt (pa_mCons pe_mInt pa_mNil))) pa_mNil)) pk_mNil) (lenK (len_cons len_nil) fun xs h => match xs, h with | [_], _ => rfl) rfl) (pa_mCons (pe_mCallK (ok_is_square T) (hr.mono (by decide)) (by rfl) T.m_is_square T.F_is_square.kp T.w_is_square_0 (passT tk) hE_of (pk_mCons (pe_mTup (pa_mCons pe_mInt (pa_mCons pe_mInt pa_mNil))) (pk_mCons (pe_mVarF (pv 0)) pk_mNil)) (lenK (len_cons (len_cons len_nil)) fun xs h => match xs, h with | [_, _], _ => rfl) rfl) (pa_mCons (pe_mCallK (ok_beside T) (hr.mono (by decide)) (by rfl) T.m_beside T.F_beside.kp T.w_beside_0 (passT tk) hE_of (pk_mCons (pe_mLst (pa_mCons pe_mInt (pa_mCons pe_mInt pa_mNil))) (pk_mCons (pe_mVarF (pv 0)) pk_mNil)) (lenK (len_cons (len_cons len_nil)) fun xs h => match xs, h with | [_, _], _ => rfl) rfl) (pa_mCons (pe_mCallK (ok_around T) (hr.mono (by decide)) (by rfl) T.m_around T.F_around.kp T.w_around_0 (passT tk) hE_of (pk_mCons (pe_mLst (pa_mCons pe_mInt (pa_mCons pe_mInt pa_mNil))) (pk_mCons (pe_mVarF (pv 0)) pk_mNil)) (lenK (len_cons (len_cons len_nil)) fun xs h => match xs, h with | [_, _], _ => rfl) rfl) pa_mNil))))))
    (pss_mCons (ps_mAsg (i := 2) sc__law_soft_right.nd rfl (by first | exact Or.inl rfl | exact Or.inr rfl) (pe_mBin op_addU rop_add (pe_mVarF (pv 2)) (pe_mLst (pa_mCons (pe_mCallK (ok_rim T) (hr.mono (by decide)) (by rfl) T.m_rim T.F_rim.kp T.w_rim_0 (passT tk) hE_of (pk_mCons (pe_mVarF (pv 0)) pk_mNil) (lenK (len_cons len_nil) fun xs h => match xs, h with | [_], _ => rfl) rfl) (pa_mCons (pe_mCallK (ok_inner T) (hr.mono (by decide)) (by rfl) T.m_inner T.F_inner.kp T.w_inner_0 (passT tk) hE_of (pk_mCons (pe_mVarF (pv 0)) pk_mNil) (lenK (len_cons len_nil) fun xs h => match xs, h with | [_], _ => rfl) rfl) (pa_mCons (pe_mCallK (ok_points T) (hr.mono (by decide)) (by rfl) T.m_points T.F_points.kp T.w_points_0 (passT tk) hE_of (pk_mCons (pe_mVarF (pv 0)) pk_mNil) (lenK (len_cons len_nil) fun xs h => match xs, h with | [_], _ => rfl) rfl) pa_mNil))))))
    (pss_mCons (ps_mAsg (i := 3) sc__law_soft_right.nd rfl (by first | exact Or.inl rfl | exact Or.inr rfl) (pe_mLst (pa_mCons pe_mBl (pa_mCons pe_mBl (pa_mCons (pe_mTup (pa_mCons (pe_mTup (pa_mCons pe_mInt (pa_mCons pe_mInt pa_mNil))) (pa_mCons (pe_mTup (pa_mCons pe_mInt (pa_mCons pe_mInt pa_mNil))) (pa_mCons (pe_mTup (pa_mCons pe_mInt (pa_mCons pe_mInt pa_mNil))) pa_mNil)))) (pa_mCons (pe_mTup (pa_mCons (pe_mTup (pa_mCons pe_mInt (pa_mCons pe_mInt pa_mNil))) (pa_mCons (pe_mTup (pa_mCons pe_mInt (pa_mCons pe_mInt pa_mNil))) (pa_mCons (pe_mTup (pa_mCons pe_mInt (pa_mCons pe_mInt pa_mNil))) pa_mNil)))) (pa_mCons (pe_mCall0 (ok__law_nook T) (hr.mono (by decide)) (by rfl) T.m__law_nook T.F__law_nook.kp T.b__law_nook (passT tk) hE_of) (pa_mCons (pe_mTup pa_mNil) (pa_mCons (pe_mTup (pa_mCons (pe_mTup (pa_mCons pe_mInt (pa_mCons pe_mInt pa_mNil))) pa_mNil)) pa_mNil)))))))))
    (pss_mCons (ps_mAsg (i := 2) sc__law_soft_right.nd rfl (by first | exact Or.inl rfl | exact Or.inr rfl) (pe_mBin op_addU rop_add (pe_mVarF (pv 2)) (pe_mLst (pa_mCons (pe_mCallK (ok_about T) (hr.mono (by decide)) (by rfl) T.m_about T.F_about.kp T.w_about_0 (passT tk) hE_of (pk_mCons (pe_mLst (pa_mCons pe_mInt (pa_mCons pe_mInt pa_mNil))) (pk_mCons (pe_mVarF (pv 0)) pk_mNil)) (lenK (len_cons (len_cons len_nil)) fun xs h => match xs, h with | [_, _], _ => rfl) rfl) (pa_mCons (pe_mCallK (ok_sizes T) (hr.mono (by decide)) (by rfl) T.m_sizes T.F_sizes.kp T.w_sizes_0 (passT tk) hE_of (pk_mCons (pe_mVarF (pv 0)) pk_mNil) (lenK (len_cons len_nil) fun xs h => match xs, h with | [_], _ => rfl) rfl) (pa_mCons (pe_mCallK (ok_pieces T) (hr.mono (by decide)) (by rfl) T.m_pieces T.F_pieces.kp T.w_pieces_0 (passT tk) hE_of (pk_mCons (pe_mVarF (pv 0)) pk_mNil) (lenK (len_cons len_nil) fun xs h => match xs, h with | [_], _ => rfl) rfl) (pa_mCons (pe_mCallK (ok_pillars T) (hr.mono (by decide)) (by rfl) T.m_pillars T.F_pillars.kp T.w_pillars_0 (passT tk) hE_of (pk_mCons (pe_mVarF (pv 0)) pk_mNil) (lenK (len_cons len_nil) fun xs h => match xs, h with | [_], _ => rfl) rfl) (pa_mCons (pe_mCallK (ok_box_of T) (hr.mono (by decide)) (by rfl) T.m_box_of T.F_box_of.kp T.w_box_of_0 (passT tk) hE_of (pk_mCons (pe_mVarF (pv 0)) pk_mNil) (lenK (len_cons len_nil) fun xs h => match xs, h with | [_], _ => rfl) rfl) (pa_mCons (pe_mCallK (ok_boxed T) (hr.mono (by decide)) (by rfl) T.m_boxed T.F_boxed.kp T.w_boxed_0 (passT tk) hE_of (pk_mCons pe_mInt (pk_mCons pe_mInt pk_mNil)) (lenK (len_cons (len_cons len_nil)) fun xs h => match xs, h with | [_, _], _ => rfl) rfl) pa_mNil)))))))))
    (pss_mCons (ps_mAsg (i := 2) sc__law_soft_right.nd rfl (by first | exact Or.inl rfl | exact Or.inr rfl) (pe_mBin op_addU rop_add (pe_mVarF (pv 2)) (pe_mLst (pa_mCons (pe_mCallK (ok_square_less T) (hr.mono (by decide)) (by rfl) T.m_square_less T.F_square_less.kp T.w_square_less_0 (passT tk) hE_of (pk_mCons (pe_mLst (pa_mCons pe_mInt (pa_mCons pe_mInt pa_mNil))) (pk_mCons (pe_mVarF (pv 0)) pk_mNil)) (lenK (len_cons (len_cons len_nil)) fun xs h => match xs, h with | [_, _], _ => rfl) rfl) pa_mNil))))
    (pss_mCons (ps_mAsg (i := 3) sc__law_soft_right.nd rfl (by first | exact Or.inl rfl | exact Or.inr rfl) (pe_mBin op_addU rop_add (pe_mVarF (pv 3)) (pe_mLst (pa_mCons (pe_mTup (pa_mCons (pe_mTup (pa_mCons pe_mInt (pa_mCons pe_mInt pa_mNil))) (pa_mCons (pe_mTup (pa_mCons pe_mInt (pa_mCons pe_mInt pa_mNil))) (pa_mCons (pe_mTup (pa_mCons pe_mInt (pa_mCons pe_mInt pa_mNil))) (pa_mCons (pe_mTup (pa_mCons pe_mInt (pa_mCons pe_mInt pa_mNil))) pa_mNil))))) (pa_mCons (pe_mTup (pa_mCons pe_mInt (pa_mCons pe_mInt (pa_mCons pe_mInt pa_mNil)))) (pa_mCons (pe_mTup (pa_mCons (pe_mCall0 (ok__law_nook T) (hr.mono (by decide)) (by rfl) T.m__law_nook T.F__law_nook.kp T.b__law_nook (passT tk) hE_of) pa_mNil)) (pa_mCons pe_mInt (pa_mCons (pe_mTup (pa_mCons (pe_mTup (pa_mCons pe_mInt (pa_mCons pe_mInt pa_mNil))) (pa_mCons (pe_mTup (pa_mCons pe_mInt (pa_mCons pe_mInt pa_mNil))) pa_mNil))) (pa_mCons (pe_mTup (pa_mCons (pe_mTup (pa_mCons pe_mInt (pa_mCons pe_mInt pa_mNil))) (pa_mCons (pe_mTup (pa_mCons pe_mInt (pa_mCons pe_mInt pa_mNil))) pa_mNil))) (pa_mCons (pe_mTup (pa_mCons (pe_mTup (pa_mCons pe_mInt (pa_mCons pe_mInt pa_mNil))) (pa_mCons (pe_mTup (pa_mCons pe_mInt (pa_mCons pe_mInt pa_mNil))) (pa_mCons (pe_mTup (pa_mCons pe_mInt (pa_mCons pe_mInt pa_mNil))) (pa_mCons (pe_mTup (pa_mCons pe_mInt (pa_mCons pe_mInt pa_mNil))) pa_mNil))))) pa_mNil))))))))))
    (pss_mCons (ps_mAsg (i := 2) sc__law_soft_right.nd rfl (by first | exact Or.inl rfl | exact Or.inr rfl) (pe_mBin op_addU rop_add (pe_mVarF (pv 2)) (pe_mLst (pa_mCons (pe_mCallK (ok_square_more T) (hr.mono (by decide)) (by rfl) T.m_square_more T.F_square_more.kp T.w_square_more_0 (passT tk) hE_of (pk_mCons (pe_mLst (pa_mCons pe_mInt (pa_mCons pe_mInt pa_mNil))) (pk_mCons (pe_mVarF (pv 0)) pk_mNil)) (lenK (len_cons (len_cons len_nil)) fun xs h => match xs, h with | [_, _], _ => rfl) rfl) (pa_mCons (pe_mCallK (ok_is_kind T) (hr.mono (by decide)) (by rfl) T.m_is_kind T.F_is_kind.kp T.w_is_kind_0 (passT tk) hE_of (pk_mCons pe_mInt pk_mNil) (lenK (len_cons len_nil) fun xs h => match xs, h with | [_], _ => rfl) rfl) (pa_mCons (pe_mCallK (ok_is_laid T) (hr.mono (by decide)) (by rfl) T.m_is_laid T.F_is_laid.kp T.w_is_laid_0 (passT tk) hE_of (pk_mCons (pe_mBin op_mulU rop_mul (pe_mTup (pa_mCons pe_mInt pa_mNil)) pe_mInt) (pk_mCons (pe_mVarF (pv 0)) pk_mNil)) (lenK (len_cons (len_cons len_nil)) fun xs h => match xs, h with | [_, _], _ => rfl) rfl) (pa_mCons (pe_mCallK (ok_is_spot T) (hr.mono (by decide)) (by rfl) T.m_is_spot T.F_is_spot.kp T.w_is_spot_0 (passT tk) hE_of (pk_mCons (pe_mTup (pa_mCons (pe_mTup (pa_mCons pe_mInt (pa_mCons pe_mInt pa_mNil))) pa_mNil)) (pk_mCons (pe_mVarF (pv 0)) pk_mNil)) (lenK (len_cons (len_cons len_nil)) fun xs h => match xs, h with | [_, _], _ => rfl) rfl) pa_mNil)))))))
    (pss_mCons (ps_mAsg (i := 2) sc__law_soft_right.nd rfl (by first | exact Or.inl rfl | exact Or.inr rfl) (pe_mBin op_addU rop_add (pe_mVarF (pv 2)) (pe_mLst (pa_mCons (pe_mCallK (ok_kinds_at T) (hr.mono (by decide)) (by rfl) T.m_kinds_at T.F_kinds_at.kp T.w_kinds_at_0 (passT tk) hE_of (pk_mCons (pe_mLst (pa_mCons pe_mInt (pa_mCons pe_mInt pa_mNil))) (pk_mCons (pe_mVarF (pv 0)) pk_mNil)) (lenK (len_cons (len_cons len_nil)) fun xs h => match xs, h with | [_, _], _ => rfl) rfl) (pa_mCons (pe_mCallK (ok_joined_with T) (hr.mono (by decide)) (by rfl) T.m_joined_with T.F_joined_with.kp T.w_joined_with_0 (passT tk) hE_of (pk_mCons pe_mInt (pk_mCons (pe_mLst (pa_mCons pe_mInt (pa_mCons pe_mInt pa_mNil))) (pk_mCons (pe_mVarF (pv 0)) pk_mNil))) (lenK (len_cons (len_cons (len_cons len_nil))) fun xs h => match xs, h with | [_, _, _], _ => rfl) rfl) pa_mNil)))))
    (pss_mCons (ps_mAsg (i := 3) sc__law_soft_right.nd rfl (by first | exact Or.inl rfl | exact Or.inr rfl) (pe_mBin op_addU rop_add (pe_mVarF (pv 3)) (pe_mLst (pa_mCons (pe_mBin op_addU rop_add (pe_mCall0 (ok__law_nook T) (hr.mono (by decide)) (by rfl) T.m__law_nook T.F__law_nook.kp T.b__law_nook (passT tk) hE_of) (pe_mTup (pa_mCons (pe_mTup (pa_mCons pe_mInt (pa_mCons pe_mInt pa_mNil))) pa_mNil))) (pa_mCons pe_mBl (pa_mCons pe_mBl (pa_mCons pe_mBl (pa_mCons (pe_mTup (pa_mCons pe_mInt (pa_mCons pe_mInt (pa_mCons pe_mInt (pa_mCons pe_mInt pa_mNil))))) (pa_mCons (pe_mTup (pa_mCons pe_mInt (pa_mCons pe_mInt pa_mNil))) pa_mNil)))))))))
    (pss_mCons (ps_mAsg (i := 2) sc__law_soft_right.nd rfl (by first | exact Or.inl rfl | exact Or.inr rfl) (pe_mBin op_addU rop_add (pe_mVarF (pv 2)) (pe_mLst (pa_mCons (pe_mCallK (ok_fits_east T) (hr.mono (by decide)) (by rfl) T.m_fits_east T.F_fits_east.kp T.w_fits_east_0 (passT tk) hE_of (pk_mCons pe_mInt (pk_mCons pe_mInt pk_mNil)) (lenK (len_cons (len_cons len_nil)) fun xs h => match xs, h with | [_, _], _ => rfl) rfl) (pa_mCons (pe_mCallK (ok_fits_south T) (hr.mono (by decide)) (by rfl) T.m_fits_south T.F_fits_south.kp T.w_fits_south_0 (passT tk) hE_of (pk_mCons pe_mInt (pk_mCons pe_mInt pk_mNil)) (lenK (len_cons (len_cons len_nil)) fun xs h => match xs, h with | [_, _], _ => rfl) rfl) (pa_mCons (pe_mCallK (ok_point_fits T) (hr.mono (by decide)) (by rfl) T.m_point_fits T.F_point_fits.kp T.w_point_fits_0 (passT tk) hE_of (pk_mCons (pe_mLst (pa_mCons pe_mInt (pa_mCons pe_mInt (pa_mCons pe_mInt (pa_mCons pe_mInt pa_mNil))))) pk_mNil) (lenK (len_cons len_nil) fun xs h => match xs, h with | [_], _ => rfl) rfl) (pa_mCons (pe_mCallB call_len rop_len (by rfl) T.z_len (by decide +kernel) (pa_mCons (pe_mCallK (ok_spots T) (hr.mono (by decide)) (by rfl) T.m_spots T.F_spots.kp T.w_spots_0 (passT tk) hE_of (pk_mCons (pe_mVarF (pv 1)) pk_mNil) (lenK (len_cons len_nil) fun xs h => match xs, h with | [_], _ => rfl) rfl) pa_mNil)) pa_mNil)))))))
    (pss_mCons (ps_mAsg (i := 2) sc__law_soft_right.nd rfl (by first | exact Or.inl rfl | exact Or.inr rfl) (pe_mBin op_addU rop_add (pe_mVarF (pv 2)) (pe_mLst (pa_mCons (pe_mCallB call_len rop_len (by rfl) T.z_len (by decide +kernel) (pa_mCons (pe_mCallK (ok_spots_at T) (hr.mono (by decide)) (by rfl) T.m_spots_at T.F_spots_at.kp T.w_spots_at_0 (passT tk) hE_of (pk_mCons (pe_mLst (pa_mCons pe_mInt (pa_mCons pe_mInt pa_mNil))) (pk_mCons (pe_mVarF (pv 1)) pk_mNil)) (lenK (len_cons (len_cons len_nil)) fun xs h => match xs, h with | [_, _], _ => rfl) rfl) pa_mNil)) (pa_mCons (pe_mCallK (ok_fits_at T) (hr.mono (by decide)) (by rfl) T.m_fits_at T.F_fits_at.kp T.w_fits_at_0 (passT tk) hE_of (pk_mCons (pe_mVarF (pv 1)) (pk_mCons (pe_mLst (pa_mCons pe_mInt (pa_mCons pe_mInt (pa_mCons pe_mInt (pa_mCons pe_mInt pa_mNil))))) (pk_mCons (pe_mVarF (pv 1)) pk_mNil))) (lenK (len_cons (len_cons (len_cons len_nil))) fun xs h => match xs, h with | [_, _, _], _ => rfl) rfl) pa_mNil)))))
    (pss_mCons (ps_mAsg (i := 3) sc__law_soft_right.nd rfl (by first | exact Or.inl rfl | exact Or.inr rfl) (pe_mBin op_addU rop_add (pe_mVarF (pv 3)) (pe_mLst (pa_mCons pe_mBl (pa_mCons pe_mBl (pa_mCons pe_mBl (pa_mCons pe_mInt (pa_mCons pe_mInt (pa_mCons pe_mBl pa_mNil)))))))))
    (pss_mCons (ps_mAsg (i := 2) sc__law_soft_right.nd rfl (by first | exact Or.inl rfl | exact Or.inr rfl) (pe_mBin op_addU rop_add (pe_mVarF (pv 2)) (pe_mLst (pa_mCons (pe_mCallK (ok_fitting T) (hr.mono (by decide)) (by rfl) T.m_fitting T.F_fitting.kp T.w_fitting_0 (passT tk) hE_of (pk_mCons (pe_mLst (pa_mCons (pe_mLst (pa_mCons pe_mInt (pa_mCons pe_mInt pa_mNil))) pa_mNil)) (pk_mCons (pe_mVarF (pv 0)) pk_mNil)) (lenK (len_cons (len_cons len_nil)) fun xs h => match xs, h with | [_, _], _ => rfl) rfl) (pa_mCons (pe_mVarF (pv 0)) (pa_mCons (pe_mVarF (pv 1)) pa_mNil))))))
    (pss_mOne (ps_mRet (pe_mCall (ok__law_same T 8) (hr.mono (by decide)) (by rfl) T.m__law_same T.F__law_same.kp T.b__law_same .nil (passT tk) (dfl := []) (fun _ _ => RpA.nil) hE_of (pa_mCons (pe_mVarF (pv 2)) (pa_mCons (pe_mBin op_addU rop_add (pe_mVarF (pv 3)) (pe_mLst (pa_mCons (pe_mLst (pa_mCons (pe_mTup (pa_mCons pe_mInt pa_mNil)) (pa_mCons (pe_mTup (pa_mCons pe_mInt pa_mNil)) pa_mNil))) (pa_mCons (pe_mCall (ok__law_lists T 8) (hr.mono (by decide)) (by rfl) T.m__law_lists T.F__law_lists.kp T.b__law_lists .nil (passT tk) (dfl := []) (fun _ _ => RpA.nil) hE_of (pa_mCons (pe_mCall0 (ok__law_nook T) (hr.mono (by decide)) (by rfl) T.m__law_nook T.F__law_nook.kp T.b__law_nook (passT tk) hE_of) pa_mNil) (len_cons len_nil) rfl) (pa_mCons (pe_mLst (pa_mCons (pe_mLst (pa_mCons pe_mInt (pa_mCons pe_mInt pa_mNil))) (pa_mCons (pe_mLst (pa_mCons pe_mInt (pa_mCons pe_mInt pa_mNil))) (pa_mCons (pe_mLst (pa_mCons pe_mInt (pa_mCons pe_mInt pa_mNil))) (pa_mCons (pe_mLst (pa_mCons pe_mInt (pa_mCons pe_mInt pa_mNil))) pa_mNil))))) pa_mNil))))) pa_mNil)) (len_cons (len_cons len_nil)) rfl)))))))))))))))))
def m_law : MS := (mSeq (mIf (mNotT (mTru (mCall m__law_none_right 4 [] mNil)))
    (mRet (mC (.bl false)))
    mSkip)
    (mRet (mIfE (mB (mBin eqD (mCallR m__law_take 6 [] (rFr (fCall m__law_box f__law_box 3 (mCons (mCall m__law_cells 6 [] (mCons (mVarF 0) (mCons (mC (.int 1)) mNil))) (mCons (mC (.int 0)) mNil))) (rDat (mC (.int 2)) rNil))) (mC (.int 0)))) (mCall m__law_refused_right 3 [] mNil) (mCall m__law_soft_right 4 [] mNil))))
theorem ok_law (T : Tx mg g fd iA iF) : FnOk P w g.K mg base (L2.CX P w) 15 (g.F 82) (fd 82) P_law (spF g 1 1 m_law) :=
  okF T.F_law sc_law rfl rfl (by decide) fun cdv A outer s H E hr =>
    have tk := takes_of (E := E) rfl rfl rfl rfl
    (pss_mCons (ps_mIf (pt_mNot (pt_mTru rfl (pe_mCall0 (ok__law_none_right T) (hr.mono (by decide)) (by rfl) T.m__law_none_right T.F__law_none_right.kp T.b__law_none_right (passT tk) hE_of) (by intro _; rfl)))
    (pss_mOne (ps_mRet pe_mBl))
    pss_mNil)
    (pss_mOne (ps_mRet (pe_mIfE (pt_mCmp (op_eqP hr.units) rop_eq (pe_mCallR (ok__law_take T) (hr.mono (by decide)) (by rfl) T.m__law_take T.F__law_take.kp T.b__law_take .nil (passT tk) (dfl := []) (fun _ _ => RpA.nil) hE_of (pa_rFr (pe_fCall (ok__law_box T) (hr.mono (by decide)) (by rfl) T.m__law_box T.F__law_box.kp T.b__law_box (passT tk) (pa_mCons (pe_mCall (ok__law_cells T) (hr.mono (by decide)) (by rfl) T.m__law_cells T.F__law_cells.kp T.b__law_cells .nil (passT tk) (dfl := []) (fun _ _ => RpA.nil) hE_of (pa_mCons (pe_mVarF (pv 0)) (pa_mCons pe_mInt pa_mNil)) (len_cons (len_cons len_nil)) rfl) (pa_mCons pe_mInt pa_mNil)) (len_cons (len_cons len_nil))) (pa_rDat pe_mInt pa_rNil)) (lenR_fr (lenR_dat lenR_nil)) rfl) pe_mInt (nomark _)) (pe_mCall0 (ok__law_refused_right T) (hr.mono (by decide)) (by rfl) T.m__law_refused_right T.F__law_refused_right.kp T.b__law_refused_right (passT tk) hE_of) (pe_mCall0 (ok__law_soft_right T) (hr.mono (by decide)) (by rfl) T.m__law_soft_right T.F__law_soft_right.kp T.b__law_soft_right (passT tk) hE_of)))))
end
/-- the law, whatever the script -/
theorem law_true : ∀ ns : List Int, ns.length ≤ 63 → trueS (m_law (S.start [.d (.ks (ns.map .int))] 1 [])) = true := fun ns hl =>
  law_two (A := m__law_none_right) (B := m__law_refused_right) (C := m__law_soft_right) (seed := 5322007) (by decide +kernel) (by decide +kernel) (by decide +kernel) ns hl

set_option maxHeartbeats 8000000
theorem all_mk {l : PySem.W.OpenLaw} {w : World} {K : PySem.W.Frag} {h : Heap} {mg : Str → Option Value} {fa : Addr} (X : K.In h) (Gn : h.Ns mainGlobals mg) (hfa : mg "law" = some (.ref fa))
    {f0 : Addr} {od0 an0 : Option Addr} {sl0 : Array (Option Value)} {oc0 kV0 dc0 pm0 cd0 ct0 : Value}
    (a0 : PySem.W.nsIn K mainGlobals "pushed" = some (some (.ref f0)))
    (l0 : K.lookup f0 = some ⟨oc0, od0, .func (PySem.W.fnOf "pushed" "pushed" (defArgs s_pushed) (defBody s_pushed) (defScope s_pushed) .none kV0 dc0 pm0 an0 cd0 ct0), sl0⟩) (c0 : PySem.W.codeIn K cd0 "pushed" = true) (k0 : PySem.W.keepIn K (.ref f0) = true)
    {f1 : Addr} {od1 an1 : Option Addr} {sl1 : Array (Option Value)} {oc1 kV1 dc1 pm1 cd1 ct1 : Value}
    (a1 : PySem.W.nsIn K mainGlobals "within" = some (some (.ref f1)))
    (l1 : K.lookup f1 = some ⟨oc1, od1, .func (PySem.W.fnOf "within" "within" (defArgs s_within) (defBody s_within) (defScope s_within) .none kV1 dc1 pm1 an1 cd1 ct1), sl1⟩) (c1 : PySem.W.codeIn K cd1 "within" = true) (k1 : PySem.W.keepIn K (.ref f1) = true)
    {f2 : Addr} {od2 an2 : Option Addr} {sl2 : Array (Option Value)} {oc2 kV2 dc2 pm2 cd2 ct2 : Value}
    (a2 : PySem.W.nsIn K mainGlobals "toward" = some (some (.ref f2)))
    (l2 : K.lookup f2 = some ⟨oc2, od2, .func (PySem.W.fnOf "toward" "toward" (defArgs s_toward) (defBody s_toward) (defScope s_toward) .none kV2 dc2 pm2 an2 cd2 ct2), sl2⟩) (c2 : PySem.W.codeIn K cd2 "toward" = true) (k2 : PySem.W.keepIn K (.ref f2) = true)
    {f3 : Addr} {od3 an3 : Option Addr} {sl3 : Array (Option Value)} {oc3 kV3 dc3 pm3 cd3 ct3 : Value}
    (a3 : PySem.W.nsIn K mainGlobals "table_of" = some (some (.ref f3)))
    (l3 : K.lookup f3 = some ⟨oc3, od3, .func (PySem.W.fnOf "table_of" "table_of" (defArgs s_table_of) (defBody s_table_of) (defScope s_table_of) .none kV3 dc3 pm3 an3 cd3 ct3), sl3⟩) (c3 : PySem.W.codeIn K cd3 "table_of" = true) (k3 : PySem.W.keepIn K (.ref f3) = true)
    {f7 : Addr} {od7 an7 : Option Addr} {sl7 : Array (Option Value)} {oc7 kV7 dc7 pm7 cd7 ct7 : Value}
    (a7 : PySem.W.nsIn K mainGlobals "points_of" = some (some (.ref f7)))
    (l7 : K.lookup f7 = some ⟨oc7, od7, .func (PySem.W.fnOf "points_of" "points_of" (defArgs s_points_of) (defBody s_points_of) (defScope s_points_of) .none kV7 dc7 pm7 an7 cd7 ct7), sl7⟩) (c7 : PySem.W.codeIn K cd7 "points_of" = true) (k7 : PySem.W.keepIn K (.ref f7) = true)
    {f19 : Addr} {od19 an19 : Option Addr} {sl19 : Array (Option Value)} {oc19 kV19 dc19 pm19 cd19 ct19 : Value}
    (a19 : PySem.W.nsIn K mainGlobals "needed" = some (some (.ref f19)))
    (l19 : K.lookup f19 = some ⟨oc19, od19, .func (PySem.W.fnOf "needed" "needed" (defArgs s_needed) (defBody s_needed) (defScope s_needed) .none kV19 dc19 pm19 an19 cd19 ct19), sl19⟩) (c19 : PySem.W.codeIn K cd19 "needed" = true) (k19 : PySem.W.keepIn K (.ref f19) = true)
    {f18 : Addr} {od18 an18 : Option Addr} {sl18 : Array (Option Value)} {oc18 kV18 dc18 pm18 cd18 ct18 : Value}
    (a18 : PySem.W.nsIn K mainGlobals "is_number" = some (some (.ref f18)))
    (l18 : K.lookup f18 = some ⟨oc18, od18, .func (PySem.W.fnOf "is_number" "is_number" (defArgs s_is_number) (defBody s_is_number) (defScope s_is_number) .none kV18 dc18 pm18 an18 cd18 ct18), sl18⟩) (c18 : PySem.W.codeIn K cd18 "is_number" = true) (k18 : PySem.W.keepIn K (.ref f18) = true)
    {f23 : Addr} {od23 an23 : Option Addr} {sl23 : Array (Option Value)} {oc23 kV23 dc23 pm23 cd23 ct23 : Value}
    (a23 : PySem.W.nsIn K mainGlobals "plain_pair" = some (some (.ref f23)))
    (l23 : K.lookup f23 = some ⟨oc23, od23, .func (PySem.W.fnOf "plain_pair" "plain_pair" (defArgs s_plain_pair) (defBody s_plain_pair) (defScope s_plain_pair) .none kV23 dc23 pm23 an23 cd23 ct23), sl23⟩) (c23 : PySem.W.codeIn K cd23 "plain_pair" = true) (k23 : PySem.W.keepIn K (.ref f23) = true)
    {f24 : Addr} {od24 an24 : Option Addr} {sl24 : Array (Option Value)} {oc24 kV24 dc24 pm24 cd24 ct24 : Value}
    (a24 : PySem.W.nsIn K mainGlobals "plain_square" = some (some (.ref f24)))
    (l24 : K.lookup f24 = some ⟨oc24, od24, .func (PySem.W.fnOf "plain_square" "plain_square" (defArgs s_plain_square) (defBody s_plain_square) (defScope s_plain_square) .none kV24 dc24 pm24 an24 cd24 ct24), sl24⟩) (c24 : PySem.W.codeIn K cd24 "plain_square" = true) (k24 : PySem.W.keepIn K (.ref f24) = true)
    {f21 : Addr} {od21 an21 : Option Addr} {sl21 : Array (Option Value)} {oc21 dV21 kV21 dc21 pm21 cd21 ct21 : Value}
    (a21 : PySem.W.nsIn K mainGlobals "plain_number" = some (some (.ref f21)))
    (l21 : K.lookup f21 = some ⟨oc21, od21, .func (PySem.W.fnOf "plain_number" "plain_number" (defArgs s_plain_number) (defBody s_plain_number) (defScope s_plain_number) dV21 kV21 dc21 pm21 an21 cd21 ct21), sl21⟩) (c21 : PySem.W.codeIn K cd21 "plain_number" = true) (k21 : PySem.W.keepIn K (.ref f21) = true)
    (df21 : He.dflB K dV21 [V.non] = true)
    {f22 : Addr} {od22 an22 : Option Addr} {sl22 : Array (Option Value)} {oc22 kV22 dc22 pm22 cd22 ct22 : Value}
    (a22 : PySem.W.nsIn K mainGlobals "plain_kind" = some (some (.ref f22)))
    (l22 : K.lookup f22 = some ⟨oc22, od22, .func (PySem.W.fnOf "plain_kind" "plain_kind" (defArgs s_plain_kind) (defBody s_plain_kind) (defScope s_plain_kind) .none kV22 dc22 pm22 an22 cd22 ct22), sl22⟩) (c22 : PySem.W.codeIn K cd22 "plain_kind" = true) (k22 : PySem.W.keepIn K (.ref f22) = true)
    {f25 : Addr} {od25 an25 : Option Addr} {sl25 : Array (Option Value)} {oc25 kV25 dc25 pm25 cd25 ct25 : Value}
    (a25 : PySem.W.nsIn K mainGlobals "plain_items" = some (some (.ref f25)))
    (l25 : K.lookup f25 = some ⟨oc25, od25, .func (PySem.W.fnOf "plain_items" "plain_items" (defArgs s_plain_items) (defBody s_plain_items) (defScope s_plain_items) .none kV25 dc25 pm25 an25 cd25 ct25), sl25⟩) (c25 : PySem.W.codeIn K cd25 "plain_items" = true) (k25 : PySem.W.keepIn K (.ref f25) = true)
    {f26 : Addr} {od26 an26 : Option Addr} {sl26 : Array (Option Value)} {oc26 kV26 dc26 pm26 cd26 ct26 : Value}
    (a26 : PySem.W.nsIn K mainGlobals "plain_set" = some (some (.ref f26)))
    (l26 : K.lookup f26 = some ⟨oc26, od26, .func (PySem.W.fnOf "plain_set" "plain_set" (defArgs s_plain_set) (defBody s_plain_set) (defScope s_plain_set) .none kV26 dc26 pm26 an26 cd26 ct26), sl26⟩) (c26 : PySem.W.codeIn K cd26 "plain_set" = true) (k26 : PySem.W.keepIn K (.ref f26) = true)
    {f28 : Addr} {od28 an28 : Option Addr} {sl28 : Array (Option Value)} {oc28 kV28 dc28 pm28 cd28 ct28 : Value}
    (a28 : PySem.W.nsIn K mainGlobals "plain_room" = some (some (.ref f28)))
    (l28 : K.lookup f28 = some ⟨oc28, od28, .func (PySem.W.fnOf "plain_room" "plain_room" (defArgs s_plain_room) (defBody s_plain_room) (defScope s_plain_room) .none kV28 dc28 pm28 an28 cd28 ct28), sl28⟩) (c28 : PySem.W.codeIn K cd28 "plain_room" = true) (k28 : PySem.W.keepIn K (.ref f28) = true)
    {f30 : Addr} {od30 an30 : Option Addr} {sl30 : Array (Option Value)} {oc30 kV30 dc30 pm30 cd30 ct30 : Value}
    (a30 : PySem.W.nsIn K mainGlobals "need_room" = some (some (.ref f30)))
    (l30 : K.lookup f30 = some ⟨oc30, od30, .func (PySem.W.fnOf "need_room" "need_room" (defArgs s_need_room) (defBody s_need_room) (defScope s_need_room) .none kV30 dc30 pm30 an30 cd30 ct30), sl30⟩) (c30 : PySem.W.codeIn K cd30 "need_room" = true) (k30 : PySem.W.keepIn K (.ref f30) = true)
    {f40 : Addr} {od40 an40 : Option Addr} {sl40 : Array (Option Value)} {oc40 kV40 dc40 pm40 cd40 ct40 : Value}
    (a40 : PySem.W.nsIn K mainGlobals "points" = some (some (.ref f40)))
    (l40 : K.lookup f40 = some ⟨oc40, od40, .func (PySem.W.fnOf "points" "points" (defArgs s_points) (defBody s_points) (defScope s_points) .none kV40 dc40 pm40 an40 cd40 ct40), sl40⟩) (c40 : PySem.W.codeIn K cd40 "points" = true) (k40 : PySem.W.keepIn K (.ref f40) = true)
    {f4 : Addr} {od4 an4 : Option Addr} {sl4 : Array (Option Value)} {oc4 kV4 dc4 pm4 cd4 ct4 : Value}
    (a4 : PySem.W.nsIn K mainGlobals "inner_of" = some (some (.ref f4)))
    (l4 : K.lookup f4 = some ⟨oc4, od4, .func (PySem.W.fnOf "inner_of" "inner_of" (defArgs s_inner_of) (defBody s_inner_of) (defScope s_inner_of) .none kV4 dc4 pm4 an4 cd4 ct4), sl4⟩) (c4 : PySem.W.codeIn K cd4 "inner_of" = true) (k4 : PySem.W.keepIn K (.ref f4) = true)
    {f5 : Addr} {od5 an5 : Option Addr} {sl5 : Array (Option Value)} {oc5 kV5 dc5 pm5 cd5 ct5 : Value}
    (a5 : PySem.W.nsIn K mainGlobals "rim_of" = some (some (.ref f5)))
    (l5 : K.lookup f5 = some ⟨oc5, od5, .func (PySem.W.fnOf "rim_of" "rim_of" (defArgs s_rim_of) (defBody s_rim_of) (defScope s_rim_of) .none kV5 dc5 pm5 an5 cd5 ct5), sl5⟩) (c5 : PySem.W.codeIn K cd5 "rim_of" = true) (k5 : PySem.W.keepIn K (.ref f5) = true)
    {f6 : Addr} {od6 an6 : Option Addr} {sl6 : Array (Option Value)} {oc6 kV6 dc6 pm6 cd6 ct6 : Value}
    (a6 : PySem.W.nsIn K mainGlobals "four_about" = some (some (.ref f6)))
    (l6 : K.lookup f6 = some ⟨oc6, od6, .func (PySem.W.fnOf "four_about" "four_about" (defArgs s_four_about) (defBody s_four_about) (defScope s_four_about) .none kV6 dc6 pm6 an6 cd6 ct6), sl6⟩) (c6 : PySem.W.codeIn K cd6 "four_about" = true) (k6 : PySem.W.keepIn K (.ref f6) = true)
    {f8 : Addr} {od8 an8 : Option Addr} {sl8 : Array (Option Value)} {oc8 kV8 dc8 pm8 cd8 ct8 : Value}
    (a8 : PySem.W.nsIn K mainGlobals "pairs_of" = some (some (.ref f8)))
    (l8 : K.lookup f8 = some ⟨oc8, od8, .func (PySem.W.fnOf "pairs_of" "pairs_of" (defArgs s_pairs_of) (defBody s_pairs_of) (defScope s_pairs_of) .none kV8 dc8 pm8 an8 cd8 ct8), sl8⟩) (c8 : PySem.W.codeIn K cd8 "pairs_of" = true) (k8 : PySem.W.keepIn K (.ref f8) = true)
    {f9 : Addr} {od9 an9 : Option Addr} {sl9 : Array (Option Value)} {oc9 kV9 dc9 pm9 cd9 ct9 : Value}
    (a9 : PySem.W.nsIn K mainGlobals "spots_of" = some (some (.ref f9)))
    (l9 : K.lookup f9 = some ⟨oc9, od9, .func (PySem.W.fnOf "spots_of" "spots_of" (defArgs s_spots_of) (defBody s_spots_of) (defScope s_spots_of) .none kV9 dc9 pm9 an9 cd9 ct9), sl9⟩) (c9 : PySem.W.codeIn K cd9 "spots_of" = true) (k9 : PySem.W.keepIn K (.ref f9) = true)
    {f10 : Addr} {od10 an10 : Option Addr} {sl10 : Array (Option Value)} {oc10 kV10 dc10 pm10 cd10 ct10 : Value}
    (a10 : PySem.W.nsIn K mainGlobals "spots_with" = some (some (.ref f10)))
    (l10 : K.lookup f10 = some ⟨oc10, od10, .func (PySem.W.fnOf "spots_with" "spots_with" (defArgs s_spots_with) (defBody s_spots_with) (defScope s_spots_with) .none kV10 dc10 pm10 an10 cd10 ct10), sl10⟩) (c10 : PySem.W.codeIn K cd10 "spots_with" = true) (k10 : PySem.W.keepIn K (.ref f10) = true)
    {f11 : Addr} {od11 an11 : Option Addr} {sl11 : Array (Option Value)} {oc11 kV11 dc11 pm11 cd11 ct11 : Value}
    (a11 : PySem.W.nsIn K mainGlobals "east_fit" = some (some (.ref f11)))
    (l11 : K.lookup f11 = some ⟨oc11, od11, .func (PySem.W.fnOf "east_fit" "east_fit" (defArgs s_east_fit) (defBody s_east_fit) (defScope s_east_fit) .none kV11 dc11 pm11 an11 cd11 ct11), sl11⟩) (c11 : PySem.W.codeIn K cd11 "east_fit" = true) (k11 : PySem.W.keepIn K (.ref f11) = true)
    {f12 : Addr} {od12 an12 : Option Addr} {sl12 : Array (Option Value)} {oc12 kV12 dc12 pm12 cd12 ct12 : Value}
    (a12 : PySem.W.nsIn K mainGlobals "south_fit" = some (some (.ref f12)))
    (l12 : K.lookup f12 = some ⟨oc12, od12, .func (PySem.W.fnOf "south_fit" "south_fit" (defArgs s_south_fit) (defBody s_south_fit) (defScope s_south_fit) .none kV12 dc12 pm12 an12 cd12 ct12), sl12⟩) (c12 : PySem.W.codeIn K cd12 "south_fit" = true) (k12 : PySem.W.keepIn K (.ref f12) = true)
    {f13 : Addr} {od13 an13 : Option Addr} {sl13 : Array (Option Value)} {oc13 kV13 dc13 pm13 cd13 ct13 : Value}
    (a13 : PySem.W.nsIn K mainGlobals "four_fit" = some (some (.ref f13)))
    (l13 : K.lookup f13 = some ⟨oc13, od13, .func (PySem.W.fnOf "four_fit" "four_fit" (defArgs s_four_fit) (defBody s_four_fit) (defScope s_four_fit) .none kV13 dc13 pm13 an13 cd13 ct13), sl13⟩) (c13 : PySem.W.codeIn K cd13 "four_fit" = true) (k13 : PySem.W.keepIn K (.ref f13) = true)
    {f14 : Addr} {od14 an14 : Option Addr} {sl14 : Array (Option Value)} {oc14 kV14 dc14 pm14 cd14 ct14 : Value}
    (a14 : PySem.W.nsIn K mainGlobals "side_fit" = some (some (.ref f14)))
    (l14 : K.lookup f14 = some ⟨oc14, od14, .func (PySem.W.fnOf "side_fit" "side_fit" (defArgs s_side_fit) (defBody s_side_fit) (defScope s_side_fit) .none kV14 dc14 pm14 an14 cd14 ct14), sl14⟩) (c14 : PySem.W.codeIn K cd14 "side_fit" = true) (k14 : PySem.W.keepIn K (.ref f14) = true)
    {f15 : Addr} {od15 an15 : Option Addr} {sl15 : Array (Option Value)} {oc15 kV15 dc15 pm15 cd15 ct15 : Value}
    (a15 : PySem.W.nsIn K mainGlobals "stays" = some (some (.ref f15)))
    (l15 : K.lookup f15 = some ⟨oc15, od15, .func (PySem.W.fnOf "stays" "stays" (defArgs s_stays) (defBody s_stays) (defScope s_stays) .none kV15 dc15 pm15 an15 cd15 ct15), sl15⟩) (c15 : PySem.W.codeIn K cd15 "stays" = true) (k15 : PySem.W.keepIn K (.ref f15) = true)
    {f16 : Addr} {od16 an16 : Option Addr} {sl16 : Array (Option Value)} {oc16 kV16 dc16 pm16 cd16 ct16 : Value}
    (a16 : PySem.W.nsIn K mainGlobals "spot_fits" = some (some (.ref f16)))
    (l16 : K.lookup f16 = some ⟨oc16, od16, .func (PySem.W.fnOf "spot_fits" "spot_fits" (defArgs s_spot_fits) (defBody s_spot_fits) (defScope s_spot_fits) .none kV16 dc16 pm16 an16 cd16 ct16), sl16⟩) (c16 : PySem.W.codeIn K cd16 "spot_fits" = true) (k16 : PySem.W.keepIn K (.ref f16) = true)
    {f17 : Addr} {od17 an17 : Option Addr} {sl17 : Array (Option Value)} {oc17 kV17 dc17 pm17 cd17 ct17 : Value}
    (a17 : PySem.W.nsIn K mainGlobals "kinds_in" = some (some (.ref f17)))
    (l17 : K.lookup f17 = some ⟨oc17, od17, .func (PySem.W.fnOf "kinds_in" "kinds_in" (defArgs s_kinds_in) (defBody s_kinds_in) (defScope s_kinds_in) .none kV17 dc17 pm17 an17 cd17 ct17), sl17⟩) (c17 : PySem.W.codeIn K cd17 "kinds_in" = true) (k17 : PySem.W.keepIn K (.ref f17) = true)
    {f20 : Addr} {od20 an20 : Option Addr} {sl20 : Array (Option Value)} {oc20 kV20 dc20 pm20 cd20 ct20 : Value}
    (a20 : PySem.W.nsIn K mainGlobals "as_told" = some (some (.ref f20)))
    (l20 : K.lookup f20 = some ⟨oc20, od20, .func (PySem.W.fnOf "as_told" "as_told" (defArgs s_as_told) (defBody s_as_told) (defScope s_as_told) .none kV20 dc20 pm20 an20 cd20 ct20), sl20⟩) (c20 : PySem.W.codeIn K cd20 "as_told" = true) (k20 : PySem.W.keepIn K (.ref f20) = true)
    {f27 : Addr} {od27 an27 : Option Addr} {sl27 : Array (Option Value)} {oc27 kV27 dc27 pm27 cd27 ct27 : Value}
    (a27 : PySem.W.nsIn K mainGlobals "plain_pairs" = some (some (.ref f27)))
    (l27 : K.lookup f27 = some ⟨oc27, od27, .func (PySem.W.fnOf "plain_pairs" "plain_pairs" (defArgs s_plain_pairs) (defBody s_plain_pairs) (defScope s_plain_pairs) .none kV27 dc27 pm27 an27 cd27 ct27), sl27⟩) (c27 : PySem.W.codeIn K cd27 "plain_pairs" = true) (k27 : PySem.W.keepIn K (.ref f27) = true)
    {f29 : Addr} {od29 an29 : Option Addr} {sl29 : Array (Option Value)} {oc29 kV29 dc29 pm29 cd29 ct29 : Value}
    (a29 : PySem.W.nsIn K mainGlobals "plain_kinds" = some (some (.ref f29)))
    (l29 : K.lookup f29 = some ⟨oc29, od29, .func (PySem.W.fnOf "plain_kinds" "plain_kinds" (defArgs s_plain_kinds) (defBody s_plain_kinds) (defScope s_plain_kinds) .none kV29 dc29 pm29 an29 cd29 ct29), sl29⟩) (c29 : PySem.W.codeIn K cd29 "plain_kinds" = true) (k29 : PySem.W.keepIn K (.ref f29) = true)
    {f31 : Addr} {od31 an31 : Option Addr} {sl31 : Array (Option Value)} {oc31 kV31 dc31 pm31 cd31 ct31 : Value}
    (a31 : PySem.W.nsIn K mainGlobals "need_pair" = some (some (.ref f31)))
    (l31 : K.lookup f31 = some ⟨oc31, od31, .func (PySem.W.fnOf "need_pair" "need_pair" (defArgs s_need_pair) (defBody s_need_pair) (defScope s_need_pair) .none kV31 dc31 pm31 an31 cd31 ct31), sl31⟩) (c31 : PySem.W.codeIn K cd31 "need_pair" = true) (k31 : PySem.W.keepIn K (.ref f31) = true)
    {f32 : Addr} {od32 an32 : Option Addr} {sl32 : Array (Option Value)} {oc32 kV32 dc32 pm32 cd32 ct32 : Value}
    (a32 : PySem.W.nsIn K mainGlobals "need_kind" = some (some (.ref f32)))
    (l32 : K.lookup f32 = some ⟨oc32, od32, .func (PySem.W.fnOf "need_kind" "need_kind" (defArgs s_need_kind) (defBody s_need_kind) (defScope s_need_kind) .none kV32 dc32 pm32 an32 cd32 ct32), sl32⟩) (c32 : PySem.W.codeIn K cd32 "need_kind" = true) (k32 : PySem.W.keepIn K (.ref f32) = true)
    {f33 : Addr} {od33 an33 : Option Addr} {sl33 : Array (Option Value)} {oc33 kV33 dc33 pm33 cd33 ct33 : Value}
    (a33 : PySem.W.nsIn K mainGlobals "check_square" = some (some (.ref f33)))
    (l33 : K.lookup f33 = some ⟨oc33, od33, .func (PySem.W.fnOf "check_square" "check_square" (defArgs s_check_square) (defBody s_check_square) (defScope s_check_square) .none kV33 dc33 pm33 an33 cd33 ct33), sl33⟩) (c33 : PySem.W.codeIn K cd33 "check_square" = true) (k33 : PySem.W.keepIn K (.ref f33) = true)
    {f34 : Addr} {od34 an34 : Option Addr} {sl34 : Array (Option Value)} {oc34 kV34 dc34 pm34 cd34 ct34 : Value}
    (a34 : PySem.W.nsIn K mainGlobals "is_room" = some (some (.ref f34)))
    (l34 : K.lookup f34 = some ⟨oc34, od34, .func (PySem.W.fnOf "is_room" "is_room" (defArgs s_is_room) (defBody s_is_room) (defScope s_is_room) .none kV34 dc34 pm34 an34 cd34 ct34), sl34⟩) (c34 : PySem.W.codeIn K cd34 "is_room" = true) (k34 : PySem.W.keepIn K (.ref f34) = true)
    {f35 : Addr} {od35 an35 : Option Addr} {sl35 : Array (Option Value)} {oc35 kV35 dc35 pm35 cd35 ct35 : Value}
    (a35 : PySem.W.nsIn K mainGlobals "is_square" = some (some (.ref f35)))
    (l35 : K.lookup f35 = some ⟨oc35, od35, .func (PySem.W.fnOf "is_square" "is_square" (defArgs s_is_square) (defBody s_is_square) (defScope s_is_square) .none kV35 dc35 pm35 an35 cd35 ct35), sl35⟩) (c35 : PySem.W.codeIn K cd35 "is_square" = true) (k35 : PySem.W.keepIn K (.ref f35) = true)
    {f36 : Addr} {od36 an36 : Option Addr} {sl36 : Array (Option Value)} {oc36 kV36 dc36 pm36 cd36 ct36 : Value}
    (a36 : PySem.W.nsIn K mainGlobals "beside" = some (some (.ref f36)))
    (l36 : K.lookup f36 = some ⟨oc36, od36, .func (PySem.W.fnOf "beside" "beside" (defArgs s_beside) (defBody s_beside) (defScope s_beside) .none kV36 dc36 pm36 an36 cd36 ct36), sl36⟩) (c36 : PySem.W.codeIn K cd36 "beside" = true) (k36 : PySem.W.keepIn K (.ref f36) = true)
    {f37 : Addr} {od37 an37 : Option Addr} {sl37 : Array (Option Value)} {oc37 kV37 dc37 pm37 cd37 ct37 : Value}
    (a37 : PySem.W.nsIn K mainGlobals "around" = some (some (.ref f37)))
    (l37 : K.lookup f37 = some ⟨oc37, od37, .func (PySem.W.fnOf "around" "around" (defArgs s_around) (defBody s_around) (defScope s_around) .none kV37 dc37 pm37 an37 cd37 ct37), sl37⟩) (c37 : PySem.W.codeIn K cd37 "around" = true) (k37 : PySem.W.keepIn K (.ref f37) = true)
    {f38 : Addr} {od38 an38 : Option Addr} {sl38 : Array (Option Value)} {oc38 kV38 dc38 pm38 cd38 ct38 : Value}
    (a38 : PySem.W.nsIn K mainGlobals "rim" = some (some (.ref f38)))
    (l38 : K.lookup f38 = some ⟨oc38, od38, .func (PySem.W.fnOf "rim" "rim" (defArgs s_rim) (defBody s_rim) (defScope s_rim) .none kV38 dc38 pm38 an38 cd38 ct38), sl38⟩) (c38 : PySem.W.codeIn K cd38 "rim" = true) (k38 : PySem.W.keepIn K (.ref f38) = true)
    {f39 : Addr} {od39 an39 : Option Addr} {sl39 : Array (Option Value)} {oc39 kV39 dc39 pm39 cd39 ct39 : Value}
    (a39 : PySem.W.nsIn K mainGlobals "inner" = some (some (.ref f39)))
    (l39 : K.lookup f39 = some ⟨oc39, od39, .func (PySem.W.fnOf "inner" "inner" (defArgs s_inner) (defBody s_inner) (defScope s_inner) .none kV39 dc39 pm39 an39 cd39 ct39), sl39⟩) (c39 : PySem.W.codeIn K cd39 "inner" = true) (k39 : PySem.W.keepIn K (.ref f39) = true)
    {f41 : Addr} {od41 an41 : Option Addr} {sl41 : Array (Option Value)} {oc41 kV41 dc41 pm41 cd41 ct41 : Value}
    (a41 : PySem.W.nsIn K mainGlobals "about" = some (some (.ref f41)))
    (l41 : K.lookup f41 = some ⟨oc41, od41, .func (PySem.W.fnOf "about" "about" (defArgs s_about) (defBody s_about) (defScope s_about) .none kV41 dc41 pm41 an41 cd41 ct41), sl41⟩) (c41 : PySem.W.codeIn K cd41 "about" = true) (k41 : PySem.W.keepIn K (.ref f41) = true)
    {f42 : Addr} {od42 an42 : Option Addr} {sl42 : Array (Option Value)} {oc42 kV42 dc42 pm42 cd42 ct42 : Value}
    (a42 : PySem.W.nsIn K mainGlobals "sizes" = some (some (.ref f42)))
    (l42 : K.lookup f42 = some ⟨oc42, od42, .func (PySem.W.fnOf "sizes" "sizes" (defArgs s_sizes) (defBody s_sizes) (defScope s_sizes) .none kV42 dc42 pm42 an42 cd42 ct42), sl42⟩) (c42 : PySem.W.codeIn K cd42 "sizes" = true) (k42 : PySem.W.keepIn K (.ref f42) = true)
    {f43 : Addr} {od43 an43 : Option Addr} {sl43 : Array (Option Value)} {oc43 kV43 dc43 pm43 cd43 ct43 : Value}
    (a43 : PySem.W.nsIn K mainGlobals "lot_from" = some (some (.ref f43)))
    (l43 : K.lookup f43 = some ⟨oc43, od43, .func (PySem.W.fnOf "lot_from" "lot_from" (defArgs s_lot_from) (defBody s_lot_from) (defScope s_lot_from) .none kV43 dc43 pm43 an43 cd43 ct43), sl43⟩) (c43 : PySem.W.codeIn K cd43 "lot_from" = true) (k43 : PySem.W.keepIn K (.ref f43) = true)
    {f44 : Addr} {od44 an44 : Option Addr} {sl44 : Array (Option Value)} {oc44 kV44 dc44 pm44 cd44 ct44 : Value}
    (a44 : PySem.W.nsIn K mainGlobals "lots" = some (some (.ref f44)))
    (l44 : K.lookup f44 = some ⟨oc44, od44, .func (PySem.W.fnOf "lots" "lots" (defArgs s_lots) (defBody s_lots) (defScope s_lots) .none kV44 dc44 pm44 an44 cd44 ct44), sl44⟩) (c44 : PySem.W.codeIn K cd44 "lots" = true) (k44 : PySem.W.keepIn K (.ref f44) = true)
    {f45 : Addr} {od45 an45 : Option Addr} {sl45 : Array (Option Value)} {oc45 kV45 dc45 pm45 cd45 ct45 : Value}
    (a45 : PySem.W.nsIn K mainGlobals "pieces" = some (some (.ref f45)))
    (l45 : K.lookup f45 = some ⟨oc45, od45, .func (PySem.W.fnOf "pieces" "pieces" (defArgs s_pieces) (defBody s_pieces) (defScope s_pieces) .none kV45 dc45 pm45 an45 cd45 ct45), sl45⟩) (c45 : PySem.W.codeIn K cd45 "pieces" = true) (k45 : PySem.W.keepIn K (.ref f45) = true)
    {f46 : Addr} {od46 an46 : Option Addr} {sl46 : Array (Option Value)} {oc46 kV46 dc46 pm46 cd46 ct46 : Value}
    (a46 : PySem.W.nsIn K mainGlobals "drawn_in" = some (some (.ref f46)))
    (l46 : K.lookup f46 = some ⟨oc46, od46, .func (PySem.W.fnOf "drawn_in" "drawn_in" (defArgs s_drawn_in) (defBody s_drawn_in) (defScope s_drawn_in) .none kV46 dc46 pm46 an46 cd46 ct46), sl46⟩) (c46 : PySem.W.codeIn K cd46 "drawn_in" = true) (k46 : PySem.W.keepIn K (.ref f46) = true)
    {f47 : Addr} {od47 an47 : Option Addr} {sl47 : Array (Option Value)} {oc47 kV47 dc47 pm47 cd47 ct47 : Value}
    (a47 : PySem.W.nsIn K mainGlobals "pillars" = some (some (.ref f47)))
    (l47 : K.lookup f47 = some ⟨oc47, od47, .func (PySem.W.fnOf "pillars" "pillars" (defArgs s_pillars) (defBody s_pillars) (defScope s_pillars) .none kV47 dc47 pm47 an47 cd47 ct47), sl47⟩) (c47 : PySem.W.codeIn K cd47 "pillars" = true) (k47 : PySem.W.keepIn K (.ref f47) = true)
    {f48 : Addr} {od48 an48 : Option Addr} {sl48 : Array (Option Value)} {oc48 kV48 dc48 pm48 cd48 ct48 : Value}
    (a48 : PySem.W.nsIn K mainGlobals "box_of" = some (some (.ref f48)))
    (l48 : K.lookup f48 = some ⟨oc48, od48, .func (PySem.W.fnOf "box_of" "box_of" (defArgs s_box_of) (defBody s_box_of) (defScope s_box_of) .none kV48 dc48 pm48 an48 cd48 ct48), sl48⟩) (c48 : PySem.W.codeIn K cd48 "box_of" = true) (k48 : PySem.W.keepIn K (.ref f48) = true)
    {f49 : Addr} {od49 an49 : Option Addr} {sl49 : Array (Option Value)} {oc49 kV49 dc49 pm49 cd49 ct49 : Value}
    (a49 : PySem.W.nsIn K mainGlobals "boxed" = some (some (.ref f49)))
    (l49 : K.lookup f49 = some ⟨oc49, od49, .func (PySem.W.fnOf "boxed" "boxed" (defArgs s_boxed) (defBody s_boxed) (defScope s_boxed) .none kV49 dc49 pm49 an49 cd49 ct49), sl49⟩) (c49 : PySem.W.codeIn K cd49 "boxed" = true) (k49 : PySem.W.keepIn K (.ref f49) = true)
    {f50 : Addr} {od50 an50 : Option Addr} {sl50 : Array (Option Value)} {oc50 kV50 dc50 pm50 cd50 ct50 : Value}
    (a50 : PySem.W.nsIn K mainGlobals "square_more" = some (some (.ref f50)))
    (l50 : K.lookup f50 = some ⟨oc50, od50, .func (PySem.W.fnOf "square_more" "square_more" (defArgs s_square_more) (defBody s_square_more) (defScope s_square_more) .none kV50 dc50 pm50 an50 cd50 ct50), sl50⟩) (c50 : PySem.W.codeIn K cd50 "square_more" = true) (k50 : PySem.W.keepIn K (.ref f50) = true)
    {f51 : Addr} {od51 an51 : Option Addr} {sl51 : Array (Option Value)} {oc51 kV51 dc51 pm51 cd51 ct51 : Value}
    (a51 : PySem.W.nsIn K mainGlobals "square_less" = some (some (.ref f51)))
    (l51 : K.lookup f51 = some ⟨oc51, od51, .func (PySem.W.fnOf "square_less" "square_less" (defArgs s_square_less) (defBody s_square_less) (defScope s_square_less) .none kV51 dc51 pm51 an51 cd51 ct51), sl51⟩) (c51 : PySem.W.codeIn K cd51 "square_less" = true) (k51 : PySem.W.keepIn K (.ref f51) = true)
    {f52 : Addr} {od52 an52 : Option Addr} {sl52 : Array (Option Value)} {oc52 kV52 dc52 pm52 cd52 ct52 : Value}
    (a52 : PySem.W.nsIn K mainGlobals "is_kind" = some (some (.ref f52)))
    (l52 : K.lookup f52 = some ⟨oc52, od52, .func (PySem.W.fnOf "is_kind" "is_kind" (defArgs s_is_kind) (defBody s_is_kind) (defScope s_is_kind) .none kV52 dc52 pm52 an52 cd52 ct52), sl52⟩) (c52 : PySem.W.codeIn K cd52 "is_kind" = true) (k52 : PySem.W.keepIn K (.ref f52) = true)
    {f53 : Addr} {od53 an53 : Option Addr} {sl53 : Array (Option Value)} {oc53 kV53 dc53 pm53 cd53 ct53 : Value}
    (a53 : PySem.W.nsIn K mainGlobals "is_laid" = some (some (.ref f53)))
    (l53 : K.lookup f53 = some ⟨oc53, od53, .func (PySem.W.fnOf "is_laid" "is_laid" (defArgs s_is_laid) (defBody s_is_laid) (defScope s_is_laid) .none kV53 dc53 pm53 an53 cd53 ct53), sl53⟩) (c53 : PySem.W.codeIn K cd53 "is_laid" = true) (k53 : PySem.W.keepIn K (.ref f53) = true)
    {f54 : Addr} {od54 an54 : Option Addr} {sl54 : Array (Option Value)} {oc54 kV54 dc54 pm54 cd54 ct54 : Value}
    (a54 : PySem.W.nsIn K mainGlobals "plain_spot" = some (some (.ref f54)))
    (l54 : K.lookup f54 = some ⟨oc54, od54, .func (PySem.W.fnOf "plain_spot" "plain_spot" (defArgs s_plain_spot) (defBody s_plain_spot) (defScope s_plain_spot) .none kV54 dc54 pm54 an54 cd54 ct54), sl54⟩) (c54 : PySem.W.codeIn K cd54 "plain_spot" = true) (k54 : PySem.W.keepIn K (.ref f54) = true)
    {f55 : Addr} {od55 an55 : Option Addr} {sl55 : Array (Option Value)} {oc55 kV55 dc55 pm55 cd55 ct55 : Value}
    (a55 : PySem.W.nsIn K mainGlobals "is_spot" = some (some (.ref f55)))
    (l55 : K.lookup f55 = some ⟨oc55, od55, .func (PySem.W.fnOf "is_spot" "is_spot" (defArgs s_is_spot) (defBody s_is_spot) (defScope s_is_spot) .none kV55 dc55 pm55 an55 cd55 ct55), sl55⟩) (c55 : PySem.W.codeIn K cd55 "is_spot" = true) (k55 : PySem.W.keepIn K (.ref f55) = true)
    {f56 : Addr} {od56 an56 : Option Addr} {sl56 : Array (Option Value)} {oc56 kV56 dc56 pm56 cd56 ct56 : Value}
    (a56 : PySem.W.nsIn K mainGlobals "kinds_at" = some (some (.ref f56)))
    (l56 : K.lookup f56 = some ⟨oc56, od56, .func (PySem.W.fnOf "kinds_at" "kinds_at" (defArgs s_kinds_at) (defBody s_kinds_at) (defScope s_kinds_at) .none kV56 dc56 pm56 an56 cd56 ct56), sl56⟩) (c56 : PySem.W.codeIn K cd56 "kinds_at" = true) (k56 : PySem.W.keepIn K (.ref f56) = true)
    {f57 : Addr} {od57 an57 : Option Addr} {sl57 : Array (Option Value)} {oc57 kV57 dc57 pm57 cd57 ct57 : Value}
    (a57 : PySem.W.nsIn K mainGlobals "joined_with" = some (some (.ref f57)))
    (l57 : K.lookup f57 = some ⟨oc57, od57, .func (PySem.W.fnOf "joined_with" "joined_with" (defArgs s_joined_with) (defBody s_joined_with) (defScope s_joined_with) .none kV57 dc57 pm57 an57 cd57 ct57), sl57⟩) (c57 : PySem.W.codeIn K cd57 "joined_with" = true) (k57 : PySem.W.keepIn K (.ref f57) = true)
    {f58 : Addr} {od58 an58 : Option Addr} {sl58 : Array (Option Value)} {oc58 kV58 dc58 pm58 cd58 ct58 : Value}
    (a58 : PySem.W.nsIn K mainGlobals "fits_east" = some (some (.ref f58)))
    (l58 : K.lookup f58 = some ⟨oc58, od58, .func (PySem.W.fnOf "fits_east" "fits_east" (defArgs s_fits_east) (defBody s_fits_east) (defScope s_fits_east) .none kV58 dc58 pm58 an58 cd58 ct58), sl58⟩) (c58 : PySem.W.codeIn K cd58 "fits_east" = true) (k58 : PySem.W.keepIn K (.ref f58) = true)
    {f59 : Addr} {od59 an59 : Option Addr} {sl59 : Array (Option Value)} {oc59 kV59 dc59 pm59 cd59 ct59 : Value}
    (a59 : PySem.W.nsIn K mainGlobals "fits_south" = some (some (.ref f59)))
    (l59 : K.lookup f59 = some ⟨oc59, od59, .func (PySem.W.fnOf "fits_south" "fits_south" (defArgs s_fits_south) (defBody s_fits_south) (defScope s_fits_south) .none kV59 dc59 pm59 an59 cd59 ct59), sl59⟩) (c59 : PySem.W.codeIn K cd59 "fits_south" = true) (k59 : PySem.W.keepIn K (.ref f59) = true)
    {f60 : Addr} {od60 an60 : Option Addr} {sl60 : Array (Option Value)} {oc60 kV60 dc60 pm60 cd60 ct60 : Value}
    (a60 : PySem.W.nsIn K mainGlobals "point_fits" = some (some (.ref f60)))
    (l60 : K.lookup f60 = some ⟨oc60, od60, .func (PySem.W.fnOf "point_fits" "point_fits" (defArgs s_point_fits) (defBody s_point_fits) (defScope s_point_fits) .none kV60 dc60 pm60 an60 cd60 ct60), sl60⟩) (c60 : PySem.W.codeIn K cd60 "point_fits" = true) (k60 : PySem.W.keepIn K (.ref f60) = true)
    {f61 : Addr} {od61 an61 : Option Addr} {sl61 : Array (Option Value)} {oc61 kV61 dc61 pm61 cd61 ct61 : Value}
    (a61 : PySem.W.nsIn K mainGlobals "spots" = some (some (.ref f61)))
    (l61 : K.lookup f61 = some ⟨oc61, od61, .func (PySem.W.fnOf "spots" "spots" (defArgs s_spots) (defBody s_spots) (defScope s_spots) .none kV61 dc61 pm61 an61 cd61 ct61), sl61⟩) (c61 : PySem.W.codeIn K cd61 "spots" = true) (k61 : PySem.W.keepIn K (.ref f61) = true)
    {f62 : Addr} {od62 an62 : Option Addr} {sl62 : Array (Option Value)} {oc62 kV62 dc62 pm62 cd62 ct62 : Value}
    (a62 : PySem.W.nsIn K mainGlobals "spots_at" = some (some (.ref f62)))
    (l62 : K.lookup f62 = some ⟨oc62, od62, .func (PySem.W.fnOf "spots_at" "spots_at" (defArgs s_spots_at) (defBody s_spots_at) (defScope s_spots_at) .none kV62 dc62 pm62 an62 cd62 ct62), sl62⟩) (c62 : PySem.W.codeIn K cd62 "spots_at" = true) (k62 : PySem.W.keepIn K (.ref f62) = true)
    {f63 : Addr} {od63 an63 : Option Addr} {sl63 : Array (Option Value)} {oc63 kV63 dc63 pm63 cd63 ct63 : Value}
    (a63 : PySem.W.nsIn K mainGlobals "fits_at" = some (some (.ref f63)))
    (l63 : K.lookup f63 = some ⟨oc63, od63, .func (PySem.W.fnOf "fits_at" "fits_at" (defArgs s_fits_at) (defBody s_fits_at) (defScope s_fits_at) .none kV63 dc63 pm63 an63 cd63 ct63), sl63⟩) (c63 : PySem.W.codeIn K cd63 "fits_at" = true) (k63 : PySem.W.keepIn K (.ref f63) = true)
    {f64 : Addr} {od64 an64 : Option Addr} {sl64 : Array (Option Value)} {oc64 kV64 dc64 pm64 cd64 ct64 : Value}
    (a64 : PySem.W.nsIn K mainGlobals "fitting" = some (some (.ref f64)))
    (l64 : K.lookup f64 = some ⟨oc64, od64, .func (PySem.W.fnOf "fitting" "fitting" (defArgs s_fitting) (defBody s_fitting) (defScope s_fitting) .none kV64 dc64 pm64 an64 cd64 ct64), sl64⟩) (c64 : PySem.W.codeIn K cd64 "fitting" = true) (k64 : PySem.W.keepIn K (.ref f64) = true)
    {f65 : Addr} {od65 an65 : Option Addr} {sl65 : Array (Option Value)} {oc65 kV65 dc65 pm65 cd65 ct65 : Value}
    (a65 : PySem.W.nsIn K mainGlobals "_law_box" = some (some (.ref f65)))
    (l65 : K.lookup f65 = some ⟨oc65, od65, .func (PySem.W.fnOf "_law_box" "_law_box" (defArgs s__law_box) (defBody s__law_box) (defScope s__law_box) .none kV65 dc65 pm65 an65 cd65 ct65), sl65⟩) (c65 : PySem.W.codeIn K cd65 "_law_box" = true) (k65 : PySem.W.keepIn K (.ref f65) = true)
    {f66 : Addr} {od66 an66 : Option Addr} {sl66 : Array (Option Value)} {oc66 kV66 dc66 pm66 cd66 ct66 : Value}
    (a66 : PySem.W.nsIn K mainGlobals "_law_take" = some (some (.ref f66)))
    (l66 : K.lookup f66 = some ⟨oc66, od66, .func (PySem.W.fnOf "_law_take" "_law_take" (defArgs s__law_take) (defBody s__law_take) (defScope s__law_take) .none kV66 dc66 pm66 an66 cd66 ct66), sl66⟩) (c66 : PySem.W.codeIn K cd66 "_law_take" = true) (k66 : PySem.W.keepIn K (.ref f66) = true)
    {f67 : Addr} {od67 an67 : Option Addr} {sl67 : Array (Option Value)} {oc67 kV67 dc67 pm67 cd67 ct67 : Value}
    (a67 : PySem.W.nsIn K mainGlobals "_law_cells" = some (some (.ref f67)))
    (l67 : K.lookup f67 = some ⟨oc67, od67, .func (PySem.W.fnOf "_law_cells" "_law_cells" (defArgs s__law_cells) (defBody s__law_cells) (defScope s__law_cells) .none kV67 dc67 pm67 an67 cd67 ct67), sl67⟩) (c67 : PySem.W.codeIn K cd67 "_law_cells" = true) (k67 : PySem.W.keepIn K (.ref f67) = true)
    {f68 : Addr} {od68 an68 : Option Addr} {sl68 : Array (Option Value)} {oc68 kV68 dc68 pm68 cd68 ct68 : Value}
    (a68 : PySem.W.nsIn K mainGlobals "_law_lists" = some (some (.ref f68)))
    (l68 : K.lookup f68 = some ⟨oc68, od68, .func (PySem.W.fnOf "_law_lists" "_law_lists" (defArgs s__law_lists) (defBody s__law_lists) (defScope s__law_lists) .none kV68 dc68 pm68 an68 cd68 ct68), sl68⟩) (c68 : PySem.W.codeIn K cd68 "_law_lists" = true) (k68 : PySem.W.keepIn K (.ref f68) = true)
    {f69 : Addr} {od69 an69 : Option Addr} {sl69 : Array (Option Value)} {oc69 kV69 dc69 pm69 cd69 ct69 : Value}
    (a69 : PySem.W.nsIn K mainGlobals "_law_same" = some (some (.ref f69)))
    (l69 : K.lookup f69 = some ⟨oc69, od69, .func (PySem.W.fnOf "_law_same" "_law_same" (defArgs s__law_same) (defBody s__law_same) (defScope s__law_same) .none kV69 dc69 pm69 an69 cd69 ct69), sl69⟩) (c69 : PySem.W.codeIn K cd69 "_law_same" = true) (k69 : PySem.W.keepIn K (.ref f69) = true)
    {f70 : Addr} {od70 an70 : Option Addr} {sl70 : Array (Option Value)} {oc70 kV70 dc70 pm70 cd70 ct70 : Value}
    (a70 : PySem.W.nsIn K mainGlobals "_law_nook" = some (some (.ref f70)))
    (l70 : K.lookup f70 = some ⟨oc70, od70, .func (PySem.W.fnOf "_law_nook" "_law_nook" (defArgs s__law_nook) (defBody s__law_nook) (defScope s__law_nook) .none kV70 dc70 pm70 an70 cd70 ct70), sl70⟩) (c70 : PySem.W.codeIn K cd70 "_law_nook" = true) (k70 : PySem.W.keepIn K (.ref f70) = true)
    {f71 : Addr} {od71 an71 : Option Addr} {sl71 : Array (Option Value)} {oc71 kV71 dc71 pm71 cd71 ct71 : Value}
    (a71 : PySem.W.nsIn K mainGlobals "_law_room_asked" = some (some (.ref f71)))
    (l71 : K.lookup f71 = some ⟨oc71, od71, .func (PySem.W.fnOf "_law_room_asked" "_law_room_asked" (defArgs s__law_room_asked) (defBody s__law_room_asked) (defScope s__law_room_asked) .none kV71 dc71 pm71 an71 cd71 ct71), sl71⟩) (c71 : PySem.W.codeIn K cd71 "_law_room_asked" = true) (k71 : PySem.W.keepIn K (.ref f71) = true)
    {f72 : Addr} {od72 an72 : Option Addr} {sl72 : Array (Option Value)} {oc72 kV72 dc72 pm72 cd72 ct72 : Value}
    (a72 : PySem.W.nsIn K mainGlobals "_law_part_asked" = some (some (.ref f72)))
    (l72 : K.lookup f72 = some ⟨oc72, od72, .func (PySem.W.fnOf "_law_part_asked" "_law_part_asked" (defArgs s__law_part_asked) (defBody s__law_part_asked) (defScope s__law_part_asked) .none kV72 dc72 pm72 an72 cd72 ct72), sl72⟩) (c72 : PySem.W.codeIn K cd72 "_law_part_asked" = true) (k72 : PySem.W.keepIn K (.ref f72) = true)
    {f73 : Addr} {od73 an73 : Option Addr} {sl73 : Array (Option Value)} {oc73 kV73 dc73 pm73 cd73 ct73 : Value}
    (a73 : PySem.W.nsIn K mainGlobals "_law_kind_asked" = some (some (.ref f73)))
    (l73 : K.lookup f73 = some ⟨oc73, od73, .func (PySem.W.fnOf "_law_kind_asked" "_law_kind_asked" (defArgs s__law_kind_asked) (defBody s__law_kind_asked) (defScope s__law_kind_asked) .none kV73 dc73 pm73 an73 cd73 ct73), sl73⟩) (c73 : PySem.W.codeIn K cd73 "_law_kind_asked" = true) (k73 : PySem.W.keepIn K (.ref f73) = true)
    {f74 : Addr} {od74 an74 : Option Addr} {sl74 : Array (Option Value)} {oc74 kV74 dc74 pm74 cd74 ct74 : Value}
    (a74 : PySem.W.nsIn K mainGlobals "_law_laid_asked" = some (some (.ref f74)))
    (l74 : K.lookup f74 = some ⟨oc74, od74, .func (PySem.W.fnOf "_law_laid_asked" "_law_laid_asked" (defArgs s__law_laid_asked) (defBody s__law_laid_asked) (defScope s__law_laid_asked) .none kV74 dc74 pm74 an74 cd74 ct74), sl74⟩) (c74 : PySem.W.codeIn K cd74 "_law_laid_asked" = true) (k74 : PySem.W.keepIn K (.ref f74) = true)
    {f75 : Addr} {od75 an75 : Option Addr} {sl75 : Array (Option Value)} {oc75 kV75 dc75 pm75 cd75 ct75 : Value}
    (a75 : PySem.W.nsIn K mainGlobals "_law_box_asked" = some (some (.ref f75)))
    (l75 : K.lookup f75 = some ⟨oc75, od75, .func (PySem.W.fnOf "_law_box_asked" "_law_box_asked" (defArgs s__law_box_asked) (defBody s__law_box_asked) (defScope s__law_box_asked) .none kV75 dc75 pm75 an75 cd75 ct75), sl75⟩) (c75 : PySem.W.codeIn K cd75 "_law_box_asked" = true) (k75 : PySem.W.keepIn K (.ref f75) = true)
    {f76 : Addr} {od76 an76 : Option Addr} {sl76 : Array (Option Value)} {oc76 kV76 dc76 pm76 cd76 ct76 : Value}
    (a76 : PySem.W.nsIn K mainGlobals "_law_heard" = some (some (.ref f76)))
    (l76 : K.lookup f76 = some ⟨oc76, od76, .func (PySem.W.fnOf "_law_heard" "_law_heard" (defArgs s__law_heard) (defBody s__law_heard) (defScope s__law_heard) .none kV76 dc76 pm76 an76 cd76 ct76), sl76⟩) (c76 : PySem.W.codeIn K cd76 "_law_heard" = true) (k76 : PySem.W.keepIn K (.ref f76) = true)
    {f77 : Addr} {od77 an77 : Option Addr} {sl77 : Array (Option Value)} {oc77 kV77 dc77 pm77 cd77 ct77 : Value}
    (a77 : PySem.W.nsIn K mainGlobals "_law_last_heard" = some (some (.ref f77)))
    (l77 : K.lookup f77 = some ⟨oc77, od77, .func (PySem.W.fnOf "_law_last_heard" "_law_last_heard" (defArgs s__law_last_heard) (defBody s__law_last_heard) (defScope s__law_last_heard) .none kV77 dc77 pm77 an77 cd77 ct77), sl77⟩) (c77 : PySem.W.codeIn K cd77 "_law_last_heard" = true) (k77 : PySem.W.keepIn K (.ref f77) = true)
    {f78 : Addr} {od78 an78 : Option Addr} {sl78 : Array (Option Value)} {oc78 kV78 dc78 pm78 cd78 ct78 : Value}
    (a78 : PySem.W.nsIn K mainGlobals "_law_out_heard" = some (some (.ref f78)))
    (l78 : K.lookup f78 = some ⟨oc78, od78, .func (PySem.W.fnOf "_law_out_heard" "_law_out_heard" (defArgs s__law_out_heard) (defBody s__law_out_heard) (defScope s__law_out_heard) .none kV78 dc78 pm78 an78 cd78 ct78), sl78⟩) (c78 : PySem.W.codeIn K cd78 "_law_out_heard" = true) (k78 : PySem.W.keepIn K (.ref f78) = true)
    {f79 : Addr} {od79 an79 : Option Addr} {sl79 : Array (Option Value)} {oc79 kV79 dc79 pm79 cd79 ct79 : Value}
    (a79 : PySem.W.nsIn K mainGlobals "_law_none_right" = some (some (.ref f79)))
    (l79 : K.lookup f79 = some ⟨oc79, od79, .func (PySem.W.fnOf "_law_none_right" "_law_none_right" (defArgs s__law_none_right) (defBody s__law_none_right) (defScope s__law_none_right) .none kV79 dc79 pm79 an79 cd79 ct79), sl79⟩) (c79 : PySem.W.codeIn K cd79 "_law_none_right" = true) (k79 : PySem.W.keepIn K (.ref f79) = true)
    {f80 : Addr} {od80 an80 : Option Addr} {sl80 : Array (Option Value)} {oc80 kV80 dc80 pm80 cd80 ct80 : Value}
    (a80 : PySem.W.nsIn K mainGlobals "_law_refused_right" = some (some (.ref f80)))
    (l80 : K.lookup f80 = some ⟨oc80, od80, .func (PySem.W.fnOf "_law_refused_right" "_law_refused_right" (defArgs s__law_refused_right) (defBody s__law_refused_right) (defScope s__law_refused_right) .none kV80 dc80 pm80 an80 cd80 ct80), sl80⟩) (c80 : PySem.W.codeIn K cd80 "_law_refused_right" = true) (k80 : PySem.W.keepIn K (.ref f80) = true)
    {f81 : Addr} {od81 an81 : Option Addr} {sl81 : Array (Option Value)} {oc81 kV81 dc81 pm81 cd81 ct81 : Value}
    (a81 : PySem.W.nsIn K mainGlobals "_law_soft_right" = some (some (.ref f81)))
    (l81 : K.lookup f81 = some ⟨oc81, od81, .func (PySem.W.fnOf "_law_soft_right" "_law_soft_right" (defArgs s__law_soft_right) (defBody s__law_soft_right) (defScope s__law_soft_right) .none kV81 dc81 pm81 an81 cd81 ct81), sl81⟩) (c81 : PySem.W.codeIn K cd81 "_law_soft_right" = true) (k81 : PySem.W.keepIn K (.ref f81) = true)
    {f82 : Addr} {od82 an82 : Option Addr} {sl82 : Array (Option Value)} {oc82 kV82 dc82 pm82 cd82 ct82 : Value}
    (a82 : PySem.W.nsIn K mainGlobals "law" = some (some (.ref f82)))
    (l82 : K.lookup f82 = some ⟨oc82, od82, .func (PySem.W.fnOf "law" "law" (defArgs s_law) (defBody s_law) (defScope s_law) .none kV82 dc82 pm82 an82 cd82 ct82), sl82⟩) (c82 : PySem.W.codeIn K cd82 "law" = true) (k82 : PySem.W.keepIn K (.ref f82) = true)
    {C0 I0 N0 : Addr} {nm0 qn0 : Str} {bs0 sub0 : List Value} {sn0 : List Str} {ab0 : Bool} {co0 : Option Bool} {dd0 eo0 ea0 : Option Addr} {m00 m10 m20 m30 m50 : Option Value} {es0 : Array (Option Value)} {ec0 ek0 ed0 ep0 ev0 et0 : Value}
    (aC0 : PySem.W.nsIn K mainGlobals "NoPoint" = some (some (.ref C0))) (xL0 : K.lookup C0 = some (excClassObj nm0 qn0 C0 N0 bs0 [.type "LookupError", .type "Exception", .type "BaseException", .type "object"] true sn0 sub0 ab0 co0 dd0 m00 m10 m20 m30 m50 "LookupError.__new__"))
    (ai0 : PySem.W.findIn K (.ref C0) "__init__" = some (some (.ref I0))) (li0 : K.lookup I0 = some ⟨ec0, eo0, .func (PySem.W.fnOf "__init__" "NoPoint.__init__" (defArgs si_NoPoint) (defBody si_NoPoint) (defScope si_NoPoint) .none ek0 ed0 ep0 ea0 ev0 et0), es0⟩) (ci0 : PySem.W.codeIn K ev0 "NoPoint.__init__" = true) (ki0 : PySem.W.keepIn K (.ref I0) = true)
    (eb0 : errB K C0 I0 ["point"] = true)
    {C1 I1 N1 : Addr} {nm1 qn1 : Str} {bs1 sub1 : List Value} {sn1 : List Str} {ab1 : Bool} {co1 : Option Bool} {dd1 eo1 ea1 : Option Addr} {m01 m11 m21 m31 m51 : Option Value} {es1 : Array (Option Value)} {ec1 ek1 ed1 ep1 ev1 et1 : Value}
    (aC1 : PySem.W.nsIn K mainGlobals "NoSquare" = some (some (.ref C1))) (xL1 : K.lookup C1 = some (excClassObj nm1 qn1 C1 N1 bs1 [.type "LookupError", .type "Exception", .type "BaseException", .type "object"] true sn1 sub1 ab1 co1 dd1 m01 m11 m21 m31 m51 "LookupError.__new__"))
    (ai1 : PySem.W.findIn K (.ref C1) "__init__" = some (some (.ref I1))) (li1 : K.lookup I1 = some ⟨ec1, eo1, .func (PySem.W.fnOf "__init__" "NoSquare.__init__" (defArgs si_NoSquare) (defBody si_NoSquare) (defScope si_NoSquare) .none ek1 ed1 ep1 ea1 ev1 et1), es1⟩) (ci1 : PySem.W.codeIn K ev1 "NoSquare.__init__" = true) (ki1 : PySem.W.keepIn K (.ref I1) = true)
    (eb1 : errB K C1 I1 ["square"] = true)
    {C2 I2 N2 : Addr} {nm2 qn2 : Str} {bs2 sub2 : List Value} {sn2 : List Str} {ab2 : Bool} {co2 : Option Bool} {dd2 eo2 ea2 : Option Addr} {m02 m12 m22 m32 m52 : Option Value} {es2 : Array (Option Value)} {ec2 ek2 ed2 ep2 ev2 et2 : Value}
    (aC2 : PySem.W.nsIn K mainGlobals "CanNot" = some (some (.ref C2))) (xL2 : K.lookup C2 = some (excClassObj nm2 qn2 C2 N2 bs2 [.type "ValueError", .type "Exception", .type "BaseException", .type "object"] true sn2 sub2 ab2 co2 dd2 m02 m12 m22 m32 m52 "ValueError.__new__"))
    (ai2 : PySem.W.findIn K (.ref C2) "__init__" = some (some (.ref I2))) (li2 : K.lookup I2 = some ⟨ec2, eo2, .func (PySem.W.fnOf "__init__" "CanNot.__init__" (defArgs si_CanNot) (defBody si_CanNot) (defScope si_CanNot) .none ek2 ed2 ep2 ea2 ev2 et2), es2⟩) (ci2 : PySem.W.codeIn K ev2 "CanNot.__init__" = true) (ki2 : PySem.W.keepIn K (.ref I2) = true)
    (eb2 : errB K C2 I2 [] = true)
    {C3 I3 N3 : Addr} {nm3 qn3 : Str} {bs3 sub3 : List Value} {sn3 : List Str} {ab3 : Bool} {co3 : Option Bool} {dd3 eo3 ea3 : Option Addr} {m03 m13 m23 m33 m53 : Option Value} {es3 : Array (Option Value)} {ec3 ek3 ed3 ep3 ev3 et3 : Value}
    (aC3 : PySem.W.nsIn K mainGlobals "Unfit" = some (some (.ref C3))) (xL3 : K.lookup C3 = some (excClassObj nm3 qn3 C3 N3 bs3 [.type "ValueError", .type "Exception", .type "BaseException", .type "object"] true sn3 sub3 ab3 co3 dd3 m03 m13 m23 m33 m53 "ValueError.__new__"))
    (ai3 : PySem.W.findIn K (.ref C3) "__init__" = some (some (.ref I3))) (li3 : K.lookup I3 = some ⟨ec3, eo3, .func (PySem.W.fnOf "__init__" "Unfit.__init__" (defArgs si_Unfit) (defBody si_Unfit) (defScope si_Unfit) .none ek3 ed3 ep3 ea3 ev3 et3), es3⟩) (ci3 : PySem.W.codeIn K ev3 "Unfit.__init__" = true) (ki3 : PySem.W.keepIn K (.ref I3) = true)
    (eb3 : errB K C3 I3 [] = true)
    (xm : exmB K [C0, C1, C2, C3] = true)
    (vbLookupError : PySem.W.findCls K (.type "LookupError") (.type "type") "__init__" = some (.val (.builtin "LookupError.__init__")))
    (vbValueError : PySem.W.findCls K (.type "ValueError") (.type "type") "__init__" = some (.val (.builtin "ValueError.__init__")))
    (ktCanNotValueError : decide (PySem.W.kitOne K (.ref C2) (.type "ValueError") = some true) = true)
    (ktNoPointLookupError : decide (PySem.W.kitOne K (.ref C0) (.type "LookupError") = some true) = true)
    (ktNoSquareLookupError : decide (PySem.W.kitOne K (.ref C1) (.type "LookupError") = some true) = true)
    (ktUnfitValueError : decide (PySem.W.kitOne K (.ref C3) (.type "ValueError") = some true) = true)
    (z_LookupError : PySem.W.nsIn K mainGlobals "LookupError" = some none)
    (z_ValueError : PySem.W.nsIn K mainGlobals "ValueError" = some none)
    (z_abs : PySem.W.nsIn K mainGlobals "abs" = some none)
    (z_all : PySem.W.nsIn K mainGlobals "all" = some none)
    (z_any : PySem.W.nsIn K mainGlobals "any" = some none)
    (z_bool : PySem.W.nsIn K mainGlobals "bool" = some none)
    (z_dict : PySem.W.nsIn K mainGlobals "dict" = some none)
    (z_enumerate : PySem.W.nsIn K mainGlobals "enumerate" = some none)
    (z_int : PySem.W.nsIn K mainGlobals "int" = some none)
    (z_isinstance : PySem.W.nsIn K mainGlobals "isinstance" = some none)
    (z_len : PySem.W.nsIn K mainGlobals "len" = some none)
    (z_list : PySem.W.nsIn K mainGlobals "list" = some none)
    (z_max : PySem.W.nsIn K mainGlobals "max" = some none)
    (z_min : PySem.W.nsIn K mainGlobals "min" = some none)
    (z_range : PySem.W.nsIn K mainGlobals "range" = some none)
    (z_set : PySem.W.nsIn K mainGlobals "set" = some none)
    (z_sorted : PySem.W.nsIn K mainGlobals "sorted" = some none)
    (z_str : PySem.W.nsIn K mainGlobals "str" = some none)
    (z_tuple : PySem.W.nsIn K mainGlobals "tuple" = some none)
    (z_zip : PySem.W.nsIn K mainGlobals "zip" = some none)
    {g_TOWARD : Addr} (c_TOWARD : PySem.W.nsIn K mainGlobals "TOWARD" = some (some (.ref g_TOWARD))) (v_TOWARD : ktV K 3 (.ref g_TOWARD) (.kt [(.kt [(.int 0), (.int 0)]), (.kt [(.int 1), (.int 0)]), (.kt [(.int 0), (.int 1)]), (.kt [(.int (-1)), (.int 0)]), (.kt [(.int 0), (.int (-1))])]) = true)
    {g_AROUND : Addr} (c_AROUND : PySem.W.nsIn K mainGlobals "AROUND" = some (some (.ref g_AROUND))) (v_AROUND : ktV K 3 (.ref g_AROUND) (.kt [(.kt [(.int (-1)), (.int (-1))]), (.kt [(.int (-1)), (.int 0)]), (.kt [(.int (-1)), (.int 1)]), (.kt [(.int 0), (.int (-1))]), (.kt [(.int 0), (.int 1)]), (.kt [(.int 1), (.int (-1))]), (.kt [(.int 1), (.int 0)]), (.kt [(.int 1), (.int 1)])]) = true)
    {t_EAST : Tok} (c_EAST : PySem.W.nsIn K mainGlobals "EAST" = some (some (.int 1 t_EAST)))
    {t_WEST : Tok} (c_WEST : PySem.W.nsIn K mainGlobals "WEST" = some (some (.int 3 t_WEST)))
    {t_SOUTH : Tok} (c_SOUTH : PySem.W.nsIn K mainGlobals "SOUTH" = some (some (.int 2 t_SOUTH)))
    {t_NORTH : Tok} (c_NORTH : PySem.W.nsIn K mainGlobals "NORTH" = some (some (.int 4 t_NORTH)))
    {g_SIDES : Addr} (c_SIDES : PySem.W.nsIn K mainGlobals "SIDES" = some (some (.ref g_SIDES))) (v_SIDES : ktV K 3 (.ref g_SIDES) (.kt [(.kt [(.int (-1)), (.int 0)]), (.kt [(.int 0), (.int (-1))]), (.kt [(.int 0), (.int 1)]), (.kt [(.int 1), (.int 0)])]) = true)
    : ∃ fd : FuncData, (∀ (s : Shared) (v : Value), BindsTo s fd ⟨[v], []⟩ [("script", v)]) ∧ ∀ base : Heap, K.In base → base.Ns mainGlobals mg → FnOk l.prog w K mg base (L2.CX l.prog w) 15 fa fd ["script"] (spLaw K) := by
  have e := hfa.symm.trans (PySem.W.mg_of X Gn a82)
  cases e
  have F0 := fun_mk (st := s_pushed) l0 c0 k0
  have b0 := F0.binds (ps := P_pushed) fun _ _ _ _ _ _ us hl => match us, hl with | [_, _], _ => rfl
  have F1 := fun_mk (st := s_within) l1 c1 k1
  have b1 := F1.binds (ps := P_within) fun _ _ _ _ _ _ us hl => match us, hl with | [_, _], _ => rfl
  have F2 := fun_mk (st := s_toward) l2 c2 k2
  have b2 := F2.binds (ps := P_toward) fun _ _ _ _ _ _ us hl => match us, hl with | [_, _], _ => rfl
  have F3 := fun_mk (st := s_table_of) l3 c3 k3
  have b3 := F3.binds (ps := P_table_of) fun _ _ _ _ _ _ us hl => match us, hl with | [_], _ => rfl
  have F7 := fun_mk (st := s_points_of) l7 c7 k7
  have b7 := F7.binds (ps := P_points_of) fun _ _ _ _ _ _ us hl => match us, hl with | [_], _ => rfl
  have F19 := fun_mk (st := s_needed) l19 c19 k19
  have b19 := F19.binds (ps := P_needed) fun _ _ _ _ _ _ us hl => match us, hl with | [_], _ => rfl
  have F18 := fun_mk (st := s_is_number) l18 c18 k18
  have b18 := F18.binds (ps := P_is_number) fun _ _ _ _ _ _ us hl => match us, hl with | [_], _ => rfl
  have F23 := fun_mk (st := s_plain_pair) l23 c23 k23
  have b23 := F23.binds (ps := P_plain_pair) fun _ _ _ _ _ _ us hl => match us, hl with | [_], _ => rfl
  have F24 := fun_mk (st := s_plain_square) l24 c24 k24
  have b24 := F24.binds (ps := P_plain_square) fun _ _ _ _ _ _ us hl => match us, hl with | [_], _ => rfl
  have F21 := funD_mk (st := s_plain_number) (dvs := [V.non]) l21 c21 k21 df21
  have b21_0 := F21.binds1 (ps := P_plain_number) 2 0 (by intro z; cases z) rfl fun T kV dc pm an cd ct us its hu hi => match us, its, hu, hi with | [_, _], [_], _, _ => ⟨_, rfl, rfl⟩
  have b21_1 := F21.binds1 (ps := P_plain_number) 3 1 (by intro z; cases z) rfl fun T kV dc pm an cd ct us its hu hi => match us, its, hu, hi with | [_, _, _], [_], _, _ => ⟨_, rfl, rfl⟩
  have F22 := fun_mk (st := s_plain_kind) l22 c22 k22
  have b22 := F22.binds (ps := P_plain_kind) fun _ _ _ _ _ _ us hl => match us, hl with | [_], _ => rfl
  have F25 := fun_mk (st := s_plain_items) l25 c25 k25
  have b25 := F25.binds (ps := P_plain_items) fun _ _ _ _ _ _ us hl => match us, hl with | [_, _], _ => rfl
  have F26 := fun_mk (st := s_plain_set) l26 c26 k26
  have b26 := F26.binds (ps := P_plain_set) fun _ _ _ _ _ _ us hl => match us, hl with | [_, _], _ => rfl
  have F28 := fun_mk (st := s_plain_room) l28 c28 k28
  have b28 := F28.binds (ps := P_plain_room) fun _ _ _ _ _ _ us hl => match us, hl with | [_], _ => rfl
  have F30 := fun_mk (st := s_need_room) l30 c30 k30
  have b30 := F30.binds (ps := P_need_room) fun _ _ _ _ _ _ us hl => match us, hl with | [_], _ => rfl
  have F40 := fun_mk (st := s_points) l40 c40 k40
  have b40 := F40.binds (ps := P_points) fun _ _ _ _ _ _ us hl => match us, hl with | [_], _ => rfl
  have F4 := fun_mk (st := s_inner_of) l4 c4 k4
  have b4 := F4.binds (ps := P_inner_of) fun _ _ _ _ _ _ us hl => match us, hl with | [_], _ => rfl
  have F5 := fun_mk (st := s_rim_of) l5 c5 k5
  have b5 := F5.binds (ps := P_rim_of) fun _ _ _ _ _ _ us hl => match us, hl with | [_], _ => rfl
  have F6 := fun_mk (st := s_four_about) l6 c6 k6
  have b6 := F6.binds (ps := P_four_about) fun _ _ _ _ _ _ us hl => match us, hl with | [_], _ => rfl
  have F8 := fun_mk (st := s_pairs_of) l8 c8 k8
  have b8 := F8.binds (ps := P_pairs_of) fun _ _ _ _ _ _ us hl => match us, hl with | [_], _ => rfl
  have F9 := fun_mk (st := s_spots_of) l9 c9 k9
  have b9 := F9.binds (ps := P_spots_of) fun _ _ _ _ _ _ us hl => match us, hl with | [_], _ => rfl
  have F10 := fun_mk (st := s_spots_with) l10 c10 k10
  have b10 := F10.binds (ps := P_spots_with) fun _ _ _ _ _ _ us hl => match us, hl with | [_, _], _ => rfl
  have F11 := fun_mk (st := s_east_fit) l11 c11 k11
  have b11 := F11.binds (ps := P_east_fit) fun _ _ _ _ _ _ us hl => match us, hl with | [_, _], _ => rfl
  have F12 := fun_mk (st := s_south_fit) l12 c12 k12
  have b12 := F12.binds (ps := P_south_fit) fun _ _ _ _ _ _ us hl => match us, hl with | [_, _], _ => rfl
  have F13 := fun_mk (st := s_four_fit) l13 c13 k13
  have b13 := F13.binds (ps := P_four_fit) fun _ _ _ _ _ _ us hl => match us, hl with | [_], _ => rfl
  have F14 := fun_mk (st := s_side_fit) l14 c14 k14
  have b14 := F14.binds (ps := P_side_fit) fun _ _ _ _ _ _ us hl => match us, hl with | [_, _], _ => rfl
  have F15 := fun_mk (st := s_stays) l15 c15 k15
  have b15 := F15.binds (ps := P_stays) fun _ _ _ _ _ _ us hl => match us, hl with | [_, _, _], _ => rfl
  have F16 := fun_mk (st := s_spot_fits) l16 c16 k16
  have b16 := F16.binds (ps := P_spot_fits) fun _ _ _ _ _ _ us hl => match us, hl with | [_, _, _], _ => rfl
  have F17 := fun_mk (st := s_kinds_in) l17 c17 k17
  have b17 := F17.binds (ps := P_kinds_in) fun _ _ _ _ _ _ us hl => match us, hl with | [_, _], _ => rfl
  have F20 := fun_mk (st := s_as_told) l20 c20 k20
  have b20 := F20.binds (ps := P_as_told) fun _ _ _ _ _ _ us hl => match us, hl with | [_, _], _ => rfl
  have F27 := fun_mk (st := s_plain_pairs) l27 c27 k27
  have b27 := F27.binds (ps := P_plain_pairs) fun _ _ _ _ _ _ us hl => match us, hl with | [_], _ => rfl
  have F29 := fun_mk (st := s_plain_kinds) l29 c29 k29
  have b29 := F29.binds (ps := P_plain_kinds) fun _ _ _ _ _ _ us hl => match us, hl with | [_, _], _ => rfl
  have F31 := fun_mk (st := s_need_pair) l31 c31 k31
  have b31 := F31.binds (ps := P_need_pair) fun _ _ _ _ _ _ us hl => match us, hl with | [_], _ => rfl
  have F32 := fun_mk (st := s_need_kind) l32 c32 k32
  have b32 := F32.binds (ps := P_need_kind) fun _ _ _ _ _ _ us hl => match us, hl with | [_], _ => rfl
  have F33 := fun_mk (st := s_check_square) l33 c33 k33
  have b33 := F33.binds (ps := P_check_square) fun _ _ _ _ _ _ us hl => match us, hl with | [_, _], _ => rfl
  have F34 := fun_mk (st := s_is_room) l34 c34 k34
  have b34 := F34.binds (ps := P_is_room) fun _ _ _ _ _ _ us hl => match us, hl with | [_], _ => rfl
  have F35 := fun_mk (st := s_is_square) l35 c35 k35
  have b35 := F35.binds (ps := P_is_square) fun _ _ _ _ _ _ us hl => match us, hl with | [_, _], _ => rfl
  have F36 := fun_mk (st := s_beside) l36 c36 k36
  have b36 := F36.binds (ps := P_beside) fun _ _ _ _ _ _ us hl => match us, hl with | [_, _], _ => rfl
  have F37 := fun_mk (st := s_around) l37 c37 k37
  have b37 := F37.binds (ps := P_around) fun _ _ _ _ _ _ us hl => match us, hl with | [_, _], _ => rfl
  have F38 := fun_mk (st := s_rim) l38 c38 k38
  have b38 := F38.binds (ps := P_rim) fun _ _ _ _ _ _ us hl => match us, hl with | [_], _ => rfl
  have F39 := fun_mk (st := s_inner) l39 c39 k39
  have b39 := F39.binds (ps := P_inner) fun _ _ _ _ _ _ us hl => match us, hl with | [_], _ => rfl
  have F41 := fun_mk (st := s_about) l41 c41 k41
  have b41 := F41.binds (ps := P_about) fun _ _ _ _ _ _ us hl => match us, hl with | [_, _], _ => rfl
  have F42 := fun_mk (st := s_sizes) l42 c42 k42
  have b42 := F42.binds (ps := P_sizes) fun _ _ _ _ _ _ us hl => match us, hl with | [_], _ => rfl
  have F43 := fun_mk (st := s_lot_from) l43 c43 k43
  have b43 := F43.binds (ps := P_lot_from) fun _ _ _ _ _ _ us hl => match us, hl with | [_, _, _, _], _ => rfl
  have F44 := fun_mk (st := s_lots) l44 c44 k44
  have b44 := F44.binds (ps := P_lots) fun _ _ _ _ _ _ us hl => match us, hl with | [_, _], _ => rfl
  have F45 := fun_mk (st := s_pieces) l45 c45 k45
  have b45 := F45.binds (ps := P_pieces) fun _ _ _ _ _ _ us hl => match us, hl with | [_], _ => rfl
  have F46 := fun_mk (st := s_drawn_in) l46 c46 k46
  have b46 := F46.binds (ps := P_drawn_in) fun _ _ _ _ _ _ us hl => match us, hl with | [_], _ => rfl
  have F47 := fun_mk (st := s_pillars) l47 c47 k47
  have b47 := F47.binds (ps := P_pillars) fun _ _ _ _ _ _ us hl => match us, hl with | [_], _ => rfl
  have F48 := fun_mk (st := s_box_of) l48 c48 k48
  have b48 := F48.binds (ps := P_box_of) fun _ _ _ _ _ _ us hl => match us, hl with | [_], _ => rfl
  have F49 := fun_mk (st := s_boxed) l49 c49 k49
  have b49 := F49.binds (ps := P_boxed) fun _ _ _ _ _ _ us hl => match us, hl with | [_, _], _ => rfl
  have F50 := fun_mk (st := s_square_more) l50 c50 k50
  have b50 := F50.binds (ps := P_square_more) fun _ _ _ _ _ _ us hl => match us, hl with | [_, _], _ => rfl
  have F51 := fun_mk (st := s_square_less) l51 c51 k51
  have b51 := F51.binds (ps := P_square_less) fun _ _ _ _ _ _ us hl => match us, hl with | [_, _], _ => rfl
  have F52 := fun_mk (st := s_is_kind) l52 c52 k52
  have b52 := F52.binds (ps := P_is_kind) fun _ _ _ _ _ _ us hl => match us, hl with | [_], _ => rfl
  have F53 := fun_mk (st := s_is_laid) l53 c53 k53
  have b53 := F53.binds (ps := P_is_laid) fun _ _ _ _ _ _ us hl => match us, hl with | [_, _], _ => rfl
  have F54 := fun_mk (st := s_plain_spot) l54 c54 k54
  have b54 := F54.binds (ps := P_plain_spot) fun _ _ _ _ _ _ us hl => match us, hl with | [_, _], _ => rfl
  have F55 := fun_mk (st := s_is_spot) l55 c55 k55
  have b55 := F55.binds (ps := P_is_spot) fun _ _ _ _ _ _ us hl => match us, hl with | [_, _], _ => rfl
  have F56 := fun_mk (st := s_kinds_at) l56 c56 k56
  have b56 := F56.binds (ps := P_kinds_at) fun _ _ _ _ _ _ us hl => match us, hl with | [_, _], _ => rfl
  have F57 := fun_mk (st := s_joined_with) l57 c57 k57
  have b57 := F57.binds (ps := P_joined_with) fun _ _ _ _ _ _ us hl => match us, hl with | [_, _, _], _ => rfl
  have F58 := fun_mk (st := s_fits_east) l58 c58 k58
  have b58 := F58.binds (ps := P_fits_east) fun _ _ _ _ _ _ us hl => match us, hl with | [_, _], _ => rfl
  have F59 := fun_mk (st := s_fits_south) l59 c59 k59
  have b59 := F59.binds (ps := P_fits_south) fun _ _ _ _ _ _ us hl => match us, hl with | [_, _], _ => rfl
  have F60 := fun_mk (st := s_point_fits) l60 c60 k60
  have b60 := F60.binds (ps := P_point_fits) fun _ _ _ _ _ _ us hl => match us, hl with | [_], _ => rfl
  have F61 := fun_mk (st := s_spots) l61 c61 k61
  have b61 := F61.binds (ps := P_spots) fun _ _ _ _ _ _ us hl => match us, hl with | [_], _ => rfl
  have F62 := fun_mk (st := s_spots_at) l62 c62 k62
  have b62 := F62.binds (ps := P_spots_at) fun _ _ _ _ _ _ us hl => match us, hl with | [_, _], _ => rfl
  have F63 := fun_mk (st := s_fits_at) l63 c63 k63
  have b63 := F63.binds (ps := P_fits_at) fun _ _ _ _ _ _ us hl => match us, hl with | [_, _, _], _ => rfl
  have F64 := fun_mk (st := s_fitting) l64 c64 k64
  have b64 := F64.binds (ps := P_fitting) fun _ _ _ _ _ _ us hl => match us, hl with | [_, _], _ => rfl
  have F65 := fun_mk (st := s__law_box) l65 c65 k65
  have b65 := F65.binds (ps := P__law_box) fun _ _ _ _ _ _ us hl => match us, hl with | [_, _], _ => rfl
  have F66 := fun_mk (st := s__law_take) l66 c66 k66
  have b66 := F66.binds (ps := P__law_take) fun _ _ _ _ _ _ us hl => match us, hl with | [_, _], _ => rfl
  have F67 := fun_mk (st := s__law_cells) l67 c67 k67
  have b67 := F67.binds (ps := P__law_cells) fun _ _ _ _ _ _ us hl => match us, hl with | [_, _], _ => rfl
  have F68 := fun_mk (st := s__law_lists) l68 c68 k68
  have b68 := F68.binds (ps := P__law_lists) fun _ _ _ _ _ _ us hl => match us, hl with | [_], _ => rfl
  have F69 := fun_mk (st := s__law_same) l69 c69 k69
  have b69 := F69.binds (ps := P__law_same) fun _ _ _ _ _ _ us hl => match us, hl with | [_, _], _ => rfl
  have F70 := fun_mk (st := s__law_nook) l70 c70 k70
  have b70 := F70.binds (ps := P__law_nook) fun _ _ _ _ _ _ us hl => match us, hl with | [], _ => rfl
  have F71 := fun_mk (st := s__law_room_asked) l71 c71 k71
  have b71 := F71.binds (ps := P__law_room_asked) fun _ _ _ _ _ _ us hl => match us, hl with | [_, _], _ => rfl
  have F72 := fun_mk (st := s__law_part_asked) l72 c72 k72
  have b72 := F72.binds (ps := P__law_part_asked) fun _ _ _ _ _ _ us hl => match us, hl with | [_, _], _ => rfl
  have F73 := fun_mk (st := s__law_kind_asked) l73 c73 k73
  have b73 := F73.binds (ps := P__law_kind_asked) fun _ _ _ _ _ _ us hl => match us, hl with | [_, _], _ => rfl
  have F74 := fun_mk (st := s__law_laid_asked) l74 c74 k74
  have b74 := F74.binds (ps := P__law_laid_asked) fun _ _ _ _ _ _ us hl => match us, hl with | [_, _], _ => rfl
  have F75 := fun_mk (st := s__law_box_asked) l75 c75 k75
  have b75 := F75.binds (ps := P__law_box_asked) fun _ _ _ _ _ _ us hl => match us, hl with | [_, _], _ => rfl
  have F76 := fun_mk (st := s__law_heard) l76 c76 k76
  have b76 := F76.binds (ps := P__law_heard) fun _ _ _ _ _ _ us hl => match us, hl with | [_, _, _], _ => rfl
  have F77 := fun_mk (st := s__law_last_heard) l77 c77 k77
  have b77 := F77.binds (ps := P__law_last_heard) fun _ _ _ _ _ _ us hl => match us, hl with | [_], _ => rfl
  have F78 := fun_mk (st := s__law_out_heard) l78 c78 k78
  have b78 := F78.binds (ps := P__law_out_heard) fun _ _ _ _ _ _ us hl => match us, hl with | [], _ => rfl
  have F79 := fun_mk (st := s__law_none_right) l79 c79 k79
  have b79 := F79.binds (ps := P__law_none_right) fun _ _ _ _ _ _ us hl => match us, hl with | [], _ => rfl
  have F80 := fun_mk (st := s__law_refused_right) l80 c80 k80
  have b80 := F80.binds (ps := P__law_refused_right) fun _ _ _ _ _ _ us hl => match us, hl with | [], _ => rfl
  have F81 := fun_mk (st := s__law_soft_right) l81 c81 k81
  have b81 := F81.binds (ps := P__law_soft_right) fun _ _ _ _ _ _ us hl => match us, hl with | [], _ => rfl
  have F82 := fun_mk (st := s_law) l82 c82 k82
  have b82 := F82.binds (ps := P_law) fun _ _ _ _ _ _ us hl => match us, hl with | [_], _ => rfl
  have FI0 := fun_mk (st := si_NoPoint) li0 ci0 ki0
  have bI0 := FI0.binds (ps := ["self", "point"]) fun _ _ _ _ _ _ us hl => match us, hl with | [_, _], _ => rfl
  have O0 := errB_ok eb0
  have FI1 := fun_mk (st := si_NoSquare) li1 ci1 ki1
  have bI1 := FI1.binds (ps := ["self", "square"]) fun _ _ _ _ _ _ us hl => match us, hl with | [_, _], _ => rfl
  have O1 := errB_ok eb1
  have FI2 := fun_mk (st := si_CanNot) li2 ci2 ki2
  have bI2 := FI2.binds (ps := ["self"]) fun _ _ _ _ _ _ us hl => match us, hl with | [_], _ => rfl
  have O2 := errB_ok eb2
  have FI3 := fun_mk (st := si_Unfit) li3 ci3 ki3
  have bI3 := FI3.binds (ps := ["self"]) fun _ _ _ _ _ _ us hl => match us, hl with | [_], _ => rfl
  have O3 := errB_ok eb3
  obtain ⟨gF, q0, q1, q2, q3, q4, q5, q6, q7, q8, q9, q10, q11, q12, q13, q14, q15, q16, q17, q18, q19, q20, q21, q22, q23, q24, q25, q26, q27, q28, q29, q30, q31, q32, q33, q34, q35, q36, q37, q38, q39, q40, q41, q42, q43, q44, q45, q46, q47, q48, q49, q50, q51, q52, q53, q54, q55, q56, q57, q58, q59, q60, q61, q62, q63, q64, q65, q66, q67, q68, q69, q70, q71, q72, q73, q74, q75, q76, q77, q78, q79, q80, q81, q82⟩ : ∃ z : Nat → Addr, z 0 = f0 ∧ z 1 = f1 ∧ z 2 = f2 ∧ z 3 = f3 ∧ z 4 = f4 ∧ z 5 = f5 ∧ z 6 = f6 ∧ z 7 = f7 ∧ z 8 = f8 ∧ z 9 = f9 ∧ z 10 = f10 ∧ z 11 = f11 ∧ z 12 = f12 ∧ z 13 = f13 ∧ z 14 = f14 ∧ z 15 = f15 ∧ z 16 = f16 ∧ z 17 = f17 ∧ z 18 = f18 ∧ z 19 = f19 ∧ z 20 = f20 ∧ z 21 = f21 ∧ z 22 = f22 ∧ z 23 = f23 ∧ z 24 = f24 ∧ z 25 = f25 ∧ z 26 = f26 ∧ z 27 = f27 ∧ z 28 = f28 ∧ z 29 = f29 ∧ z 30 = f30 ∧ z 31 = f31 ∧ z 32 = f32 ∧ z 33 = f33 ∧ z 34 = f34 ∧ z 35 = f35 ∧ z 36 = f36 ∧ z 37 = f37 ∧ z 38 = f38 ∧ z 39 = f39 ∧ z 40 = f40 ∧ z 41 = f41 ∧ z 42 = f42 ∧ z 43 = f43 ∧ z 44 = f44 ∧ z 45 = f45 ∧ z 46 = f46 ∧ z 47 = f47 ∧ z 48 = f48 ∧ z 49 = f49 ∧ z 50 = f50 ∧ z 51 = f51 ∧ z 52 = f52 ∧ z 53 = f53 ∧ z 54 = f54 ∧ z 55 = f55 ∧ z 56 = f56 ∧ z 57 = f57 ∧ z 58 = f58 ∧ z 59 = f59 ∧ z 60 = f60 ∧ z 61 = f61 ∧ z 62 = f62 ∧ z 63 = f63 ∧ z 64 = f64 ∧ z 65 = f65 ∧ z 66 = f66 ∧ z 67 = f67 ∧ z 68 = f68 ∧ z 69 = f69 ∧ z 70 = f70 ∧ z 71 = f71 ∧ z 72 = f72 ∧ z 73 = f73 ∧ z 74 = f74 ∧ z 75 = f75 ∧ z 76 = f76 ∧ z 77 = f77 ∧ z 78 = f78 ∧ z 79 = f79 ∧ z 80 = f80 ∧ z 81 = f81 ∧ z 82 = fa := ⟨fun i => [f0, f1, f2, f3, f4, f5, f6, f7, f8, f9, f10, f11, f12, f13, f14, f15, f16, f17, f18, f19, f20, f21, f22, f23, f24, f25, f26, f27, f28, f29, f30, f31, f32, f33, f34, f35, f36, f37, f38, f39, f40, f41, f42, f43, f44, f45, f46, f47, f48, f49, f50, f51, f52, f53, f54, f55, f56, f57, f58, f59, f60, f61, f62, f63, f64, f65, f66, f67, f68, f69, f70, f71, f72, f73, f74, f75, f76, f77, f78, f79, f80, f81, fa].getD i 0, rfl, rfl, rfl, rfl, rfl, rfl, rfl, rfl, rfl, rfl, rfl, rfl, rfl, rfl, rfl, rfl, rfl, rfl, rfl, rfl, rfl, rfl, rfl, rfl, rfl, rfl, rfl, rfl, rfl, rfl, rfl, rfl, rfl, rfl, rfl, rfl, rfl, rfl, rfl, rfl, rfl, rfl, rfl, rfl, rfl, rfl, rfl, rfl, rfl, rfl, rfl, rfl, rfl, rfl, rfl, rfl, rfl, rfl, rfl, rfl, rfl, rfl, rfl, rfl, rfl, rfl, rfl, rfl, rfl, rfl, rfl, rfl, rfl, rfl, rfl, rfl, rfl, rfl, rfl, rfl, rfl, rfl, rfl⟩
  obtain ⟨gd, r0, r1, r2, r3, r4, r5, r6, r7, r8, r9, r10, r11, r12, r13, r14, r15, r16, r17, r18, r19, r20, r21, r22, r23, r24, r25, r26, r27, r28, r29, r30, r31, r32, r33, r34, r35, r36, r37, r38, r39, r40, r41, r42, r43, r44, r45, r46, r47, r48, r49, r50, r51, r52, r53, r54, r55, r56, r57, r58, r59, r60, r61, r62, r63, r64, r65, r66, r67, r68, r69, r70, r71, r72, r73, r74, r75, r76, r77, r78, r79, r80, r81, r82⟩ : ∃ z : Nat → FuncData, z 0 = PySem.W.fnOf "pushed" "pushed" (defArgs s_pushed) (defBody s_pushed) (defScope s_pushed) .none kV0 dc0 pm0 an0 cd0 ct0 ∧ z 1 = PySem.W.fnOf "within" "within" (defArgs s_within) (defBody s_within) (defScope s_within) .none kV1 dc1 pm1 an1 cd1 ct1 ∧ z 2 = PySem.W.fnOf "toward" "toward" (defArgs s_toward) (defBody s_toward) (defScope s_toward) .none kV2 dc2 pm2 an2 cd2 ct2 ∧ z 3 = PySem.W.fnOf "table_of" "table_of" (defArgs s_table_of) (defBody s_table_of) (defScope s_table_of) .none kV3 dc3 pm3 an3 cd3 ct3 ∧ z 4 = PySem.W.fnOf "inner_of" "inner_of" (defArgs s_inner_of) (defBody s_inner_of) (defScope s_inner_of) .none kV4 dc4 pm4 an4 cd4 ct4 ∧ z 5 = PySem.W.fnOf "rim_of" "rim_of" (defArgs s_rim_of) (defBody s_rim_of) (defScope s_rim_of) .none kV5 dc5 pm5 an5 cd5 ct5 ∧ z 6 = PySem.W.fnOf "four_about" "four_about" (defArgs s_four_about) (defBody s_four_about) (defScope s_four_about) .none kV6 dc6 pm6 an6 cd6 ct6 ∧ z 7 = PySem.W.fnOf "points_of" "points_of" (defArgs s_points_of) (defBody s_points_of) (defScope s_points_of) .none kV7 dc7 pm7 an7 cd7 ct7 ∧ z 8 = PySem.W.fnOf "pairs_of" "pairs_of" (defArgs s_pairs_of) (defBody s_pairs_of) (defScope s_pairs_of) .none kV8 dc8 pm8 an8 cd8 ct8 ∧ z 9 = PySem.W.fnOf "spots_of" "spots_of" (defArgs s_spots_of) (defBody s_spots_of) (defScope s_spots_of) .none kV9 dc9 pm9 an9 cd9 ct9 ∧ z 10 = PySem.W.fnOf "spots_with" "spots_with" (defArgs s_spots_with) (defBody s_spots_with) (defScope s_spots_with) .none kV10 dc10 pm10 an10 cd10 ct10 ∧ z 11 = PySem.W.fnOf "east_fit" "east_fit" (defArgs s_east_fit) (defBody s_east_fit) (defScope s_east_fit) .none kV11 dc11 pm11 an11 cd11 ct11 ∧ z 12 = PySem.W.fnOf "south_fit" "south_fit" (defArgs s_south_fit) (defBody s_south_fit) (defScope s_south_fit) .none kV12 dc12 pm12 an12 cd12 ct12 ∧ z 13 = PySem.W.fnOf "four_fit" "four_fit" (defArgs s_four_fit) (defBody s_four_fit) (defScope s_four_fit) .none kV13 dc13 pm13 an13 cd13 ct13 ∧ z 14 = PySem.W.fnOf "side_fit" "side_fit" (defArgs s_side_fit) (defBody s_side_fit) (defScope s_side_fit) .none kV14 dc14 pm14 an14 cd14 ct14 ∧ z 15 = PySem.W.fnOf "stays" "stays" (defArgs s_stays) (defBody s_stays) (defScope s_stays) .none kV15 dc15 pm15 an15 cd15 ct15 ∧ z 16 = PySem.W.fnOf "spot_fits" "spot_fits" (defArgs s_spot_fits) (defBody s_spot_fits) (defScope s_spot_fits) .none kV16 dc16 pm16 an16 cd16 ct16 ∧ z 17 = PySem.W.fnOf "kinds_in" "kinds_in" (defArgs s_kinds_in) (defBody s_kinds_in) (defScope s_kinds_in) .none kV17 dc17 pm17 an17 cd17 ct17 ∧ z 18 = PySem.W.fnOf "is_number" "is_number" (defArgs s_is_number) (defBody s_is_number) (defScope s_is_number) .none kV18 dc18 pm18 an18 cd18 ct18 ∧ z 19 = PySem.W.fnOf "needed" "needed" (defArgs s_needed) (defBody s_needed) (defScope s_needed) .none kV19 dc19 pm19 an19 cd19 ct19 ∧ z 20 = PySem.W.fnOf "as_told" "as_told" (defArgs s_as_told) (defBody s_as_told) (defScope s_as_told) .none kV20 dc20 pm20 an20 cd20 ct20 ∧ z 21 = PySem.W.fnOf "plain_number" "plain_number" (defArgs s_plain_number) (defBody s_plain_number) (defScope s_plain_number) dV21 kV21 dc21 pm21 an21 cd21 ct21 ∧ z 22 = PySem.W.fnOf "plain_kind" "plain_kind" (defArgs s_plain_kind) (defBody s_plain_kind) (defScope s_plain_kind) .none kV22 dc22 pm22 an22 cd22 ct22 ∧ z 23 = PySem.W.fnOf "plain_pair" "plain_pair" (defArgs s_plain_pair) (defBody s_plain_pair) (defScope s_plain_pair) .none kV23 dc23 pm23 an23 cd23 ct23 ∧ z 24 = PySem.W.fnOf "plain_square" "plain_square" (defArgs s_plain_square) (defBody s_plain_square) (defScope s_plain_square) .none kV24 dc24 pm24 an24 cd24 ct24 ∧ z 25 = PySem.W.fnOf "plain_items" "plain_items" (defArgs s_plain_items) (defBody s_plain_items) (defScope s_plain_items) .none kV25 dc25 pm25 an25 cd25 ct25 ∧ z 26 = PySem.W.fnOf "plain_set" "plain_set" (defArgs s_plain_set) (defBody s_plain_set) (defScope s_plain_set) .none kV26 dc26 pm26 an26 cd26 ct26 ∧ z 27 = PySem.W.fnOf "plain_pairs" "plain_pairs" (defArgs s_plain_pairs) (defBody s_plain_pairs) (defScope s_plain_pairs) .none kV27 dc27 pm27 an27 cd27 ct27 ∧ z 28 = PySem.W.fnOf "plain_room" "plain_room" (defArgs s_plain_room) (defBody s_plain_room) (defScope s_plain_room) .none kV28 dc28 pm28 an28 cd28 ct28 ∧ z 29 = PySem.W.fnOf "plain_kinds" "plain_kinds" (defArgs s_plain_kinds) (defBody s_plain_kinds) (defScope s_plain_kinds) .none kV29 dc29 pm29 an29 cd29 ct29 ∧ z 30 = PySem.W.fnOf "need_room" "need_room" (defArgs s_need_room) (defBody s_need_room) (defScope s_need_room) .none kV30 dc30 pm30 an30 cd30 ct30 ∧ z 31 = PySem.W.fnOf "need_pair" "need_pair" (defArgs s_need_pair) (defBody s_need_pair) (defScope s_need_pair) .none kV31 dc31 pm31 an31 cd31 ct31 ∧ z 32 = PySem.W.fnOf "need_kind" "need_kind" (defArgs s_need_kind) (defBody s_need_kind) (defScope s_need_kind) .none kV32 dc32 pm32 an32 cd32 ct32 ∧ z 33 = PySem.W.fnOf "check_square" "check_square" (defArgs s_check_square) (defBody s_check_square) (defScope s_check_square) .none kV33 dc33 pm33 an33 cd33 ct33 ∧ z 34 = PySem.W.fnOf "is_room" "is_room" (defArgs s_is_room) (defBody s_is_room) (defScope s_is_room) .none kV34 dc34 pm34 an34 cd34 ct34 ∧ z 35 = PySem.W.fnOf "is_square" "is_square" (defArgs s_is_square) (defBody s_is_square) (defScope s_is_square) .none kV35 dc35 pm35 an35 cd35 ct35 ∧ z 36 = PySem.W.fnOf "beside" "beside" (defArgs s_beside) (defBody s_beside) (defScope s_beside) .none kV36 dc36 pm36 an36 cd36 ct36 ∧ z 37 = PySem.W.fnOf "around" "around" (defArgs s_around) (defBody s_around) (defScope s_around) .none kV37 dc37 pm37 an37 cd37 ct37 ∧ z 38 = PySem.W.fnOf "rim" "rim" (defArgs s_rim) (defBody s_rim) (defScope s_rim) .none kV38 dc38 pm38 an38 cd38 ct38 ∧ z 39 = PySem.W.fnOf "inner" "inner" (defArgs s_inner) (defBody s_inner) (defScope s_inner) .none kV39 dc39 pm39 an39 cd39 ct39 ∧ z 40 = PySem.W.fnOf "points" "points" (defArgs s_points) (defBody s_points) (defScope s_points) .none kV40 dc40 pm40 an40 cd40 ct40 ∧ z 41 = PySem.W.fnOf "about" "about" (defArgs s_about) (defBody s_about) (defScope s_about) .none kV41 dc41 pm41 an41 cd41 ct41 ∧ z 42 = PySem.W.fnOf "sizes" "sizes" (defArgs s_sizes) (defBody s_sizes) (defScope s_sizes) .none kV42 dc42 pm42 an42 cd42 ct42 ∧ z 43 = PySem.W.fnOf "lot_from" "lot_from" (defArgs s_lot_from) (defBody s_lot_from) (defScope s_lot_from) .none kV43 dc43 pm43 an43 cd43 ct43 ∧ z 44 = PySem.W.fnOf "lots" "lots" (defArgs s_lots) (defBody s_lots) (defScope s_lots) .none kV44 dc44 pm44 an44 cd44 ct44 ∧ z 45 = PySem.W.fnOf "pieces" "pieces" (defArgs s_pieces) (defBody s_pieces) (defScope s_pieces) .none kV45 dc45 pm45 an45 cd45 ct45 ∧ z 46 = PySem.W.fnOf "drawn_in" "drawn_in" (defArgs s_drawn_in) (defBody s_drawn_in) (defScope s_drawn_in) .none kV46 dc46 pm46 an46 cd46 ct46 ∧ z 47 = PySem.W.fnOf "pillars" "pillars" (defArgs s_pillars) (defBody s_pillars) (defScope s_pillars) .none kV47 dc47 pm47 an47 cd47 ct47 ∧ z 48 = PySem.W.fnOf "box_of" "box_of" (defArgs s_box_of) (defBody s_box_of) (defScope s_box_of) .none kV48 dc48 pm48 an48 cd48 ct48 ∧ z 49 = PySem.W.fnOf "boxed" "boxed" (defArgs s_boxed) (defBody s_boxed) (defScope s_boxed) .none kV49 dc49 pm49 an49 cd49 ct49 ∧ z 50 = PySem.W.fnOf "square_more" "square_more" (defArgs s_square_more) (defBody s_square_more) (defScope s_square_more) .none kV50 dc50 pm50 an50 cd50 ct50 ∧ z 51 = PySem.W.fnOf "square_less" "square_less" (defArgs s_square_less) (defBody s_square_less) (defScope s_square_less) .none kV51 dc51 pm51 an51 cd51 ct51 ∧ z 52 = PySem.W.fnOf "is_kind" "is_kind" (defArgs s_is_kind) (defBody s_is_kind) (defScope s_is_kind) .none kV52 dc52 pm52 an52 cd52 ct52 ∧ z 53 = PySem.W.fnOf "is_laid" "is_laid" (defArgs s_is_laid) (defBody s_is_laid) (defScope s_is_laid) .none kV53 dc53 pm53 an53 cd53 ct53 ∧ z 54 = PySem.W.fnOf "plain_spot" "plain_spot" (defArgs s_plain_spot) (defBody s_plain_spot) (defScope s_plain_spot) .none kV54 dc54 pm54 an54 cd54 ct54 ∧ z 55 = PySem.W.fnOf "is_spot" "is_spot" (defArgs s_is_spot) (defBody s_is_spot) (defScope s_is_spot) .none kV55 dc55 pm55 an55 cd55 ct55 ∧ z 56 = PySem.W.fnOf "kinds_at" "kinds_at" (defArgs s_kinds_at) (defBody s_kinds_at) (defScope s_kinds_at) .none kV56 dc56 pm56 an56 cd56 ct56 ∧ z 57 = PySem.W.fnOf "joined_with" "joined_with" (defArgs s_joined_with) (defBody s_joined_with) (defScope s_joined_with) .none kV57 dc57 pm57 an57 cd57 ct57 ∧ z 58 = PySem.W.fnOf "fits_east" "fits_east" (defArgs s_fits_east) (defBody s_fits_east) (defScope s_fits_east) .none kV58 dc58 pm58 an58 cd58 ct58 ∧ z 59 = PySem.W.fnOf "fits_south" "fits_south" (defArgs s_fits_south) (defBody s_fits_south) (defScope s_fits_south) .none kV59 dc59 pm59 an59 cd59 ct59 ∧ z 60 = PySem.W.fnOf "point_fits" "point_fits" (defArgs s_point_fits) (defBody s_point_fits) (defScope s_point_fits) .none kV60 dc60 pm60 an60 cd60 ct60 ∧ z 61 = PySem.W.fnOf "spots" "spots" (defArgs s_spots) (defBody s_spots) (defScope s_spots) .none kV61 dc61 pm61 an61 cd61 ct61 ∧ z 62 = PySem.W.fnOf "spots_at" "spots_at" (defArgs s_spots_at) (defBody s_spots_at) (defScope s_spots_at) .none kV62 dc62 pm62 an62 cd62 ct62 ∧ z 63 = PySem.W.fnOf "fits_at" "fits_at" (defArgs s_fits_at) (defBody s_fits_at) (defScope s_fits_at) .none kV63 dc63 pm63 an63 cd63 ct63 ∧ z 64 = PySem.W.fnOf "fitting" "fitting" (defArgs s_fitting) (defBody s_fitting) (defScope s_fitting) .none kV64 dc64 pm64 an64 cd64 ct64 ∧ z 65 = PySem.W.fnOf "_law_box" "_law_box" (defArgs s__law_box) (defBody s__law_box) (defScope s__law_box) .none kV65 dc65 pm65 an65 cd65 ct65 ∧ z 66 = PySem.W.fnOf "_law_take" "_law_take" (defArgs s__law_take) (defBody s__law_take) (defScope s__law_take) .none kV66 dc66 pm66 an66 cd66 ct66 ∧ z 67 = PySem.W.fnOf "_law_cells" "_law_cells" (defArgs s__law_cells) (defBody s__law_cells) (defScope s__law_cells) .none kV67 dc67 pm67 an67 cd67 ct67 ∧ z 68 = PySem.W.fnOf "_law_lists" "_law_lists" (defArgs s__law_lists) (defBody s__law_lists) (defScope s__law_lists) .none kV68 dc68 pm68 an68 cd68 ct68 ∧ z 69 = PySem.W.fnOf "_law_same" "_law_same" (defArgs s__law_same) (defBody s__law_same) (defScope s__law_same) .none kV69 dc69 pm69 an69 cd69 ct69 ∧ z 70 = PySem.W.fnOf "_law_nook" "_law_nook" (defArgs s__law_nook) (defBody s__law_nook) (defScope s__law_nook) .none kV70 dc70 pm70 an70 cd70 ct70 ∧ z 71 = PySem.W.fnOf "_law_room_asked" "_law_room_asked" (defArgs s__law_room_asked) (defBody s__law_room_asked) (defScope s__law_room_asked) .none kV71 dc71 pm71 an71 cd71 ct71 ∧ z 72 = PySem.W.fnOf "_law_part_asked" "_law_part_asked" (defArgs s__law_part_asked) (defBody s__law_part_asked) (defScope s__law_part_asked) .none kV72 dc72 pm72 an72 cd72 ct72 ∧ z 73 = PySem.W.fnOf "_law_kind_asked" "_law_kind_asked" (defArgs s__law_kind_asked) (defBody s__law_kind_asked) (defScope s__law_kind_asked) .none kV73 dc73 pm73 an73 cd73 ct73 ∧ z 74 = PySem.W.fnOf "_law_laid_asked" "_law_laid_asked" (defArgs s__law_laid_asked) (defBody s__law_laid_asked) (defScope s__law_laid_asked) .none kV74 dc74 pm74 an74 cd74 ct74 ∧ z 75 = PySem.W.fnOf "_law_box_asked" "_law_box_asked" (defArgs s__law_box_asked) (defBody s__law_box_asked) (defScope s__law_box_asked) .none kV75 dc75 pm75 an75 cd75 ct75 ∧ z 76 = PySem.W.fnOf "_law_heard" "_law_heard" (defArgs s__law_heard) (defBody s__law_heard) (defScope s__law_heard) .none kV76 dc76 pm76 an76 cd76 ct76 ∧ z 77 = PySem.W.fnOf "_law_last_heard" "_law_last_heard" (defArgs s__law_last_heard) (defBody s__law_last_heard) (defScope s__law_last_heard) .none kV77 dc77 pm77 an77 cd77 ct77 ∧ z 78 = PySem.W.fnOf "_law_out_heard" "_law_out_heard" (defArgs s__law_out_heard) (defBody s__law_out_heard) (defScope s__law_out_heard) .none kV78 dc78 pm78 an78 cd78 ct78 ∧ z 79 = PySem.W.fnOf "_law_none_right" "_law_none_right" (defArgs s__law_none_right) (defBody s__law_none_right) (defScope s__law_none_right) .none kV79 dc79 pm79 an79 cd79 ct79 ∧ z 80 = PySem.W.fnOf "_law_refused_right" "_law_refused_right" (defArgs s__law_refused_right) (defBody s__law_refused_right) (defScope s__law_refused_right) .none kV80 dc80 pm80 an80 cd80 ct80 ∧ z 81 = PySem.W.fnOf "_law_soft_right" "_law_soft_right" (defArgs s__law_soft_right) (defBody s__law_soft_right) (defScope s__law_soft_right) .none kV81 dc81 pm81 an81 cd81 ct81 ∧ z 82 = PySem.W.fnOf "law" "law" (defArgs s_law) (defBody s_law) (defScope s_law) .none kV82 dc82 pm82 an82 cd82 ct82 := ⟨fun i => [PySem.W.fnOf "pushed" "pushed" (defArgs s_pushed) (defBody s_pushed) (defScope s_pushed) .none kV0 dc0 pm0 an0 cd0 ct0, PySem.W.fnOf "within" "within" (defArgs s_within) (defBody s_within) (defScope s_within) .none kV1 dc1 pm1 an1 cd1 ct1, PySem.W.fnOf "toward" "toward" (defArgs s_toward) (defBody s_toward) (defScope s_toward) .none kV2 dc2 pm2 an2 cd2 ct2, PySem.W.fnOf "table_of" "table_of" (defArgs s_table_of) (defBody s_table_of) (defScope s_table_of) .none kV3 dc3 pm3 an3 cd3 ct3, PySem.W.fnOf "inner_of" "inner_of" (defArgs s_inner_of) (defBody s_inner_of) (defScope s_inner_of) .none kV4 dc4 pm4 an4 cd4 ct4, PySem.W.fnOf "rim_of" "rim_of" (defArgs s_rim_of) (defBody s_rim_of) (defScope s_rim_of) .none kV5 dc5 pm5 an5 cd5 ct5, PySem.W.fnOf "four_about" "four_about" (defArgs s_four_about) (defBody s_four_about) (defScope s_four_about) .none kV6 dc6 pm6 an6 cd6 ct6, PySem.W.fnOf "points_of" "points_of" (defArgs s_points_of) (defBody s_points_of) (defScope s_points_of) .none kV7 dc7 pm7 an7 cd7 ct7, PySem.W.fnOf "pairs_of" "pairs_of" (defArgs s_pairs_of) (defBody s_pairs_of) (defScope s_pairs_of) .none kV8 dc8 pm8 an8 cd8 ct8, PySem.W.fnOf "spots_of" "spots_of" (defArgs s_spots_of) (defBody s_spots_of) (defScope s_spots_of) .none kV9 dc9 pm9 an9 cd9 ct9, PySem.W.fnOf "spots_with" "spots_with" (defArgs s_spots_with) (defBody s_spots_with) (defScope s_spots_with) .none kV10 dc10 pm10 an10 cd10 ct10, PySem.W.fnOf "east_fit" "east_fit" (defArgs s_east_fit) (defBody s_east_fit) (defScope s_east_fit) .none kV11 dc11 pm11 an11 cd11 ct11, PySem.W.fnOf "south_fit" "south_fit" (defArgs s_south_fit) (defBody s_south_fit) (defScope s_south_fit) .none kV12 dc12 pm12 an12 cd12 ct12, PySem.W.fnOf "four_fit" "four_fit" (defArgs s_four_fit) (defBody s_four_fit) (defScope s_four_fit) .none kV13 dc13 pm13 an13 cd13 ct13, PySem.W.fnOf "side_fit" "side_fit" (defArgs s_side_fit) (defBody s_side_fit) (defScope s_side_fit) .none kV14 dc14 pm14 an14 cd14 ct14, PySem.W.fnOf "stays" "stays" (defArgs s_stays) (defBody s_stays) (defScope s_stays) .none kV15 dc15 pm15 an15 cd15 ct15, PySem.W.fnOf "spot_fits" "spot_fits" (defArgs s_spot_fits) (defBody s_spot_fits) (defScope s_spot_fits) .none kV16 dc16 pm16 an16 cd16 ct16, PySem.W.fnOf "kinds_in" "kinds_in" (defArgs s_kinds_in) (defBody s_kinds_in) (defScope s_kinds_in) .none kV17 dc17 pm17 an17 cd17 ct17, PySem.W.fnOf "is_number" "is_number" (defArgs s_is_number) (defBody s_is_number) (defScope s_is_number) .none kV18 dc18 pm18 an18 cd18 ct18, PySem.W.fnOf "needed" "needed" (defArgs s_needed) (defBody s_needed) (defScope s_needed) .none kV19 dc19 pm19 an19 cd19 ct19, PySem.W.fnOf "as_told" "as_told" (defArgs s_as_told) (defBody s_as_told) (defScope s_as_told) .none kV20 dc20 pm20 an20 cd20 ct20, PySem.W.fnOf "plain_number" "plain_number" (defArgs s_plain_number) (defBody s_plain_number) (defScope s_plain_number) dV21 kV21 dc21 pm21 an21 cd21 ct21, PySem.W.fnOf "plain_kind" "plain_kind" (defArgs s_plain_kind) (defBody s_plain_kind) (defScope s_plain_kind) .none kV22 dc22 pm22 an22 cd22 ct22, PySem.W.fnOf "plain_pair" "plain_pair" (defArgs s_plain_pair) (defBody s_plain_pair) (defScope s_plain_pair) .none kV23 dc23 pm23 an23 cd23 ct23, PySem.W.fnOf "plain_square" "plain_square" (defArgs s_plain_square) (defBody s_plain_square) (defScope s_plain_square) .none kV24 dc24 pm24 an24 cd24 ct24, PySem.W.fnOf "plain_items" "plain_items" (defArgs s_plain_items) (defBody s_plain_items) (defScope s_plain_items) .none kV25 dc25 pm25 an25 cd25 ct25, PySem.W.fnOf "plain_set" "plain_set" (defArgs s_plain_set) (defBody s_plain_set) (defScope s_plain_set) .none kV26 dc26 pm26 an26 cd26 ct26, PySem.W.fnOf "plain_pairs" "plain_pairs" (defArgs s_plain_pairs) (defBody s_plain_pairs) (defScope s_plain_pairs) .none kV27 dc27 pm27 an27 cd27 ct27, PySem.W.fnOf "plain_room" "plain_room" (defArgs s_plain_room) (defBody s_plain_room) (defScope s_plain_room) .none kV28 dc28 pm28 an28 cd28 ct28, PySem.W.fnOf "plain_kinds" "plain_kinds" (defArgs s_plain_kinds) (defBody s_plain_kinds) (defScope s_plain_kinds) .none kV29 dc29 pm29 an29 cd29 ct29, PySem.W.fnOf "need_room" "need_room" (defArgs s_need_room) (defBody s_need_room) (defScope s_need_room) .none kV30 dc30 pm30 an30 cd30 ct30, PySem.W.fnOf "need_pair" "need_pair" (defArgs s_need_pair) (defBody s_need_pair) (defScope s_need_pair) .none kV31 dc31 pm31 an31 cd31 ct31, PySem.W.fnOf "need_kind" "need_kind" (defArgs s_need_kind) (defBody s_need_kind) (defScope s_need_kind) .none kV32 dc32 pm32 an32 cd32 ct32, PySem.W.fnOf "check_square" "check_square" (defArgs s_check_square) (defBody s_check_square) (defScope s_check_square) .none kV33 dc33 pm33 an33 cd33 ct33, PySem.W.fnOf "is_room" "is_room" (defArgs s_is_room) (defBody s_is_room) (defScope s_is_room) .none kV34 dc34 pm34 an34 cd34 ct34, PySem.W.fnOf "is_square" "is_square" (defArgs s_is_square) (defBody s_is_square) (defScope s_is_square) .none kV35 dc35 pm35 an35 cd35 ct35, PySem.W.fnOf "beside" "beside" (defArgs s_beside) (defBody s_beside) (defScope s_beside) .none kV36 dc36 pm36 an36 cd36 ct36, PySem.W.fnOf "around" "around" (defArgs s_around) (defBody s_around) (defScope s_around) .none kV37 dc37 pm37 an37 cd37 ct37, PySem.W.fnOf "rim" "rim" (defArgs s_rim) (defBody s_rim) (defScope s_rim) .none kV38 dc38 pm38 an38 cd38 ct38, PySem.W.fnOf "inner" "inner" (defArgs s_inner) (defBody s_inner) (defScope s_inner) .none kV39 dc39 pm39 an39 cd39 ct39, PySem.W.fnOf "points" "points" (defArgs s_points) (defBody s_points) (defScope s_points) .none kV40 dc40 pm40 an40 cd40 ct40, PySem.W.fnOf "about" "about" (defArgs s_about) (defBody s_about) (defScope s_about) .none kV41 dc41 pm41 an41 cd41 ct41, PySem.W.fnOf "sizes" "sizes" (defArgs s_sizes) (defBody s_sizes) (defScope s_sizes) .none kV42 dc42 pm42 an42 cd42 ct42, PySem.W.fnOf "lot_from" "lot_from" (defArgs s_lot_from) (defBody s_lot_from) (defScope s_lot_from) .none kV43 dc43 pm43 an43 cd43 ct43, PySem.W.fnOf "lots" "lots" (defArgs s_lots) (defBody s_lots) (defScope s_lots) .none kV44 dc44 pm44 an44 cd44 ct44, PySem.W.fnOf "pieces" "pieces" (defArgs s_pieces) (defBody s_pieces) (defScope s_pieces) .none kV45 dc45 pm45 an45 cd45 ct45, PySem.W.fnOf "drawn_in" "drawn_in" (defArgs s_drawn_in) (defBody s_drawn_in) (defScope s_drawn_in) .none kV46 dc46 pm46 an46 cd46 ct46, PySem.W.fnOf "pillars" "pillars" (defArgs s_pillars) (defBody s_pillars) (defScope s_pillars) .none kV47 dc47 pm47 an47 cd47 ct47, PySem.W.fnOf "box_of" "box_of" (defArgs s_box_of) (defBody s_box_of) (defScope s_box_of) .none kV48 dc48 pm48 an48 cd48 ct48, PySem.W.fnOf "boxed" "boxed" (defArgs s_boxed) (defBody s_boxed) (defScope s_boxed) .none kV49 dc49 pm49 an49 cd49 ct49, PySem.W.fnOf "square_more" "square_more" (defArgs s_square_more) (defBody s_square_more) (defScope s_square_more) .none kV50 dc50 pm50 an50 cd50 ct50, PySem.W.fnOf "square_less" "square_less" (defArgs s_square_less) (defBody s_square_less) (defScope s_square_less) .none kV51 dc51 pm51 an51 cd51 ct51, PySem.W.fnOf "is_kind" "is_kind" (defArgs s_is_kind) (defBody s_is_kind) (defScope s_is_kind) .none kV52 dc52 pm52 an52 cd52 ct52, PySem.W.fnOf "is_laid" "is_laid" (defArgs s_is_laid) (defBody s_is_laid) (defScope s_is_laid) .none kV53 dc53 pm53 an53 cd53 ct53, PySem.W.fnOf "plain_spot" "plain_spot" (defArgs s_plain_spot) (defBody s_plain_spot) (defScope s_plain_spot) .none kV54 dc54 pm54 an54 cd54 ct54, PySem.W.fnOf "is_spot" "is_spot" (defArgs s_is_spot) (defBody s_is_spot) (defScope s_is_spot) .none kV55 dc55 pm55 an55 cd55 ct55, PySem.W.fnOf "kinds_at" "kinds_at" (defArgs s_kinds_at) (defBody s_kinds_at) (defScope s_kinds_at) .none kV56 dc56 pm56 an56 cd56 ct56, PySem.W.fnOf "joined_with" "joined_with" (defArgs s_joined_with) (defBody s_joined_with) (defScope s_joined_with) .none kV57 dc57 pm57 an57 cd57 ct57, PySem.W.fnOf "fits_east" "fits_east" (defArgs s_fits_east) (defBody s_fits_east) (defScope s_fits_east) .none kV58 dc58 pm58 an58 cd58 ct58, PySem.W.fnOf "fits_south" "fits_south" (defArgs s_fits_south) (defBody s_fits_south) (defScope s_fits_south) .none kV59 dc59 pm59 an59 cd59 ct59, PySem.W.fnOf "point_fits" "point_fits" (defArgs s_point_fits) (defBody s_point_fits) (defScope s_point_fits) .none kV60 dc60 pm60 an60 cd60 ct60, PySem.W.fnOf "spots" "spots" (defArgs s_spots) (defBody s_spots) (defScope s_spots) .none kV61 dc61 pm61 an61 cd61 ct61, PySem.W.fnOf "spots_at" "spots_at" (defArgs s_spots_at) (defBody s_spots_at) (defScope s_spots_at) .none kV62 dc62 pm62 an62 cd62 ct62, PySem.W.fnOf "fits_at" "fits_at" (defArgs s_fits_at) (defBody s_fits_at) (defScope s_fits_at) .none kV63 dc63 pm63 an63 cd63 ct63, PySem.W.fnOf "fitting" "fitting" (defArgs s_fitting) (defBody s_fitting) (defScope s_fitting) .none kV64 dc64 pm64 an64 cd64 ct64, PySem.W.fnOf "_law_box" "_law_box" (defArgs s__law_box) (defBody s__law_box) (defScope s__law_box) .none kV65 dc65 pm65 an65 cd65 ct65, PySem.W.fnOf "_law_take" "_law_take" (defArgs s__law_take) (defBody s__law_take) (defScope s__law_take) .none kV66 dc66 pm66 an66 cd66 ct66, PySem.W.fnOf "_law_cells" "_law_cells" (defArgs s__law_cells) (defBody s__law_cells) (defScope s__law_cells) .none kV67 dc67 pm67 an67 cd67 ct67, PySem.W.fnOf "_law_lists" "_law_lists" (defArgs s__law_lists) (defBody s__law_lists) (defScope s__law_lists) .none kV68 dc68 pm68 an68 cd68 ct68, PySem.W.fnOf "_law_same" "_law_same" (defArgs s__law_same) (defBody s__law_same) (defScope s__law_same) .none kV69 dc69 pm69 an69 cd69 ct69, PySem.W.fnOf "_law_nook" "_law_nook" (defArgs s__law_nook) (defBody s__law_nook) (defScope s__law_nook) .none kV70 dc70 pm70 an70 cd70 ct70, PySem.W.fnOf "_law_room_asked" "_law_room_asked" (defArgs s__law_room_asked) (defBody s__law_room_asked) (defScope s__law_room_asked) .none kV71 dc71 pm71 an71 cd71 ct71, PySem.W.fnOf "_law_part_asked" "_law_part_asked" (defArgs s__law_part_asked) (defBody s__law_part_asked) (defScope s__law_part_asked) .none kV72 dc72 pm72 an72 cd72 ct72, PySem.W.fnOf "_law_kind_asked" "_law_kind_asked" (defArgs s__law_kind_asked) (defBody s__law_kind_asked) (defScope s__law_kind_asked) .none kV73 dc73 pm73 an73 cd73 ct73, PySem.W.fnOf "_law_laid_asked" "_law_laid_asked" (defArgs s__law_laid_asked) (defBody s__law_laid_asked) (defScope s__law_laid_asked) .none kV74 dc74 pm74 an74 cd74 ct74, PySem.W.fnOf "_law_box_asked" "_law_box_asked" (defArgs s__law_box_asked) (defBody s__law_box_asked) (defScope s__law_box_asked) .none kV75 dc75 pm75 an75 cd75 ct75, PySem.W.fnOf "_law_heard" "_law_heard" (defArgs s__law_heard) (defBody s__law_heard) (defScope s__law_heard) .none kV76 dc76 pm76 an76 cd76 ct76, PySem.W.fnOf "_law_last_heard" "_law_last_heard" (defArgs s__law_last_heard) (defBody s__law_last_heard) (defScope s__law_last_heard) .none kV77 dc77 pm77 an77 cd77 ct77, PySem.W.fnOf "_law_out_heard" "_law_out_heard" (defArgs s__law_out_heard) (defBody s__law_out_heard) (defScope s__law_out_heard) .none kV78 dc78 pm78 an78 cd78 ct78, PySem.W.fnOf "_law_none_right" "_law_none_right" (defArgs s__law_none_right) (defBody s__law_none_right) (defScope s__law_none_right) .none kV79 dc79 pm79 an79 cd79 ct79, PySem.W.fnOf "_law_refused_right" "_law_refused_right" (defArgs s__law_refused_right) (defBody s__law_refused_right) (defScope s__law_refused_right) .none kV80 dc80 pm80 an80 cd80 ct80, PySem.W.fnOf "_law_soft_right" "_law_soft_right" (defArgs s__law_soft_right) (defBody s__law_soft_right) (defScope s__law_soft_right) .none kV81 dc81 pm81 an81 cd81 ct81, PySem.W.fnOf "law" "law" (defArgs s_law) (defBody s_law) (defScope s_law) .none kV82 dc82 pm82 an82 cd82 ct82].getD i (PySem.W.fnOf "law" "law" (defArgs s_law) (defBody s_law) (defScope s_law) .none kV82 dc82 pm82 an82 cd82 ct82), rfl, rfl, rfl, rfl, rfl, rfl, rfl, rfl, rfl, rfl, rfl, rfl, rfl, rfl, rfl, rfl, rfl, rfl, rfl, rfl, rfl, rfl, rfl, rfl, rfl, rfl, rfl, rfl, rfl, rfl, rfl, rfl, rfl, rfl, rfl, rfl, rfl, rfl, rfl, rfl, rfl, rfl, rfl, rfl, rfl, rfl, rfl, rfl, rfl, rfl, rfl, rfl, rfl, rfl, rfl, rfl, rfl, rfl, rfl, rfl, rfl, rfl, rfl, rfl, rfl, rfl, rfl, rfl, rfl, rfl, rfl, rfl, rfl, rfl, rfl, rfl, rfl, rfl, rfl, rfl, rfl, rfl, rfl⟩
  obtain ⟨gC, qC0, qC1, qC2, qC3⟩ : ∃ z : Nat → Addr, z 0 = C0 ∧ z 1 = C1 ∧ z 2 = C2 ∧ z 3 = C3 := ⟨fun i => [C0, C1, C2, C3].getD i 0, rfl, rfl, rfl, rfl⟩
  obtain ⟨gI, qI0, qI1, qI2, qI3⟩ : ∃ z : Nat → Addr, z 0 = I0 ∧ z 1 = I1 ∧ z 2 = I2 ∧ z 3 = I3 := ⟨fun i => [I0, I1, I2, I3].getD i 0, rfl, rfl, rfl, rfl⟩
  obtain ⟨gf, qf0, qf1, qf2, qf3⟩ : ∃ z : Nat → List Str, z 0 = (["point"] : List Str) ∧ z 1 = (["square"] : List Str) ∧ z 2 = ([] : List Str) ∧ z 3 = ([] : List Str) := ⟨fun i => ([["point"], ["square"], [], []] : List (List Str)).getD i [], rfl, rfl, rfl, rfl⟩
  obtain ⟨gD, rI0, rI1, rI2, rI3⟩ : ∃ z : Nat → FuncData, z 0 = PySem.W.fnOf "__init__" "NoPoint.__init__" (defArgs si_NoPoint) (defBody si_NoPoint) (defScope si_NoPoint) .none ek0 ed0 ep0 ea0 ev0 et0 ∧ z 1 = PySem.W.fnOf "__init__" "NoSquare.__init__" (defArgs si_NoSquare) (defBody si_NoSquare) (defScope si_NoSquare) .none ek1 ed1 ep1 ea1 ev1 et1 ∧ z 2 = PySem.W.fnOf "__init__" "CanNot.__init__" (defArgs si_CanNot) (defBody si_CanNot) (defScope si_CanNot) .none ek2 ed2 ep2 ea2 ev2 et2 ∧ z 3 = PySem.W.fnOf "__init__" "Unfit.__init__" (defArgs si_Unfit) (defBody si_Unfit) (defScope si_Unfit) .none ek3 ed3 ep3 ea3 ev3 et3 := ⟨fun i => [PySem.W.fnOf "__init__" "NoPoint.__init__" (defArgs si_NoPoint) (defBody si_NoPoint) (defScope si_NoPoint) .none ek0 ed0 ep0 ea0 ev0 et0, PySem.W.fnOf "__init__" "NoSquare.__init__" (defArgs si_NoSquare) (defBody si_NoSquare) (defScope si_NoSquare) .none ek1 ed1 ep1 ea1 ev1 et1, PySem.W.fnOf "__init__" "CanNot.__init__" (defArgs si_CanNot) (defBody si_CanNot) (defScope si_CanNot) .none ek2 ed2 ep2 ea2 ev2 et2, PySem.W.fnOf "__init__" "Unfit.__init__" (defArgs si_Unfit) (defBody si_Unfit) (defScope si_Unfit) .none ek3 ed3 ep3 ea3 ev3 et3].getD i (PySem.W.fnOf "law" "law" (defArgs s_law) (defBody s_law) (defScope s_law) .none kV82 dc82 pm82 an82 cd82 ct82), rfl, rfl, rfl, rfl⟩
  have T : Tx mg ⟨K, gF, gC, gf⟩ gd gI gD := {
    F_pushed := at_fun q0 r0 F0, m_pushed := at_mg q0 (PySem.W.mg_of X Gn a0),
    b_pushed := at_binds r0 b0,
    F_within := at_fun q1 r1 F1, m_within := at_mg q1 (PySem.W.mg_of X Gn a1),
    b_within := at_binds r1 b1,
    F_toward := at_fun q2 r2 F2, m_toward := at_mg q2 (PySem.W.mg_of X Gn a2),
    b_toward := at_binds r2 b2,
    F_table_of := at_fun q3 r3 F3, m_table_of := at_mg q3 (PySem.W.mg_of X Gn a3),
    b_table_of := at_binds r3 b3,
    F_points_of := at_fun q7 r7 F7, m_points_of := at_mg q7 (PySem.W.mg_of X Gn a7),
    b_points_of := at_binds r7 b7,
    F_needed := at_fun q19 r19 F19, m_needed := at_mg q19 (PySem.W.mg_of X Gn a19),
    b_needed := at_binds r19 b19,
    F_is_number := at_fun q18 r18 F18, m_is_number := at_mg q18 (PySem.W.mg_of X Gn a18),
    b_is_number := at_binds r18 b18,
    F_plain_pair := at_fun q23 r23 F23, m_plain_pair := at_mg q23 (PySem.W.mg_of X Gn a23),
    b_plain_pair := at_binds r23 b23,
    F_plain_square := at_fun q24 r24 F24, m_plain_square := at_mg q24 (PySem.W.mg_of X Gn a24),
    b_plain_square := at_binds r24 b24,
    F_plain_number := at_funD q21 r21 F21, m_plain_number := at_mg q21 (PySem.W.mg_of X Gn a21),
    b_plain_number_0 := at_bindsD r21 b21_0, b_plain_number_1 := at_bindsD r21 b21_1,
    F_plain_kind := at_fun q22 r22 F22, m_plain_kind := at_mg q22 (PySem.W.mg_of X Gn a22),
    b_plain_kind := at_binds r22 b22,
    F_plain_items := at_fun q25 r25 F25, m_plain_items := at_mg q25 (PySem.W.mg_of X Gn a25),
    b_plain_items := at_binds r25 b25,
    F_plain_set := at_fun q26 r26 F26, m_plain_set := at_mg q26 (PySem.W.mg_of X Gn a26),
    b_plain_set := at_binds r26 b26,
    F_plain_room := at_fun q28 r28 F28, m_plain_room := at_mg q28 (PySem.W.mg_of X Gn a28),
    b_plain_room := at_binds r28 b28,
    F_need_room := at_fun q30 r30 F30, m_need_room := at_mg q30 (PySem.W.mg_of X Gn a30),
    b_need_room := at_binds r30 b30,
    w_points_0 := at_kw r40 fun s ws _ hl => match ws, hl with | [_], _ => .of_eq rfl,
    F_points := at_fun q40 r40 F40, m_points := at_mg q40 (PySem.W.mg_of X Gn a40),
    b_points := at_binds r40 b40,
    F_inner_of := at_fun q4 r4 F4, m_inner_of := at_mg q4 (PySem.W.mg_of X Gn a4),
    b_inner_of := at_binds r4 b4,
    F_rim_of := at_fun q5 r5 F5, m_rim_of := at_mg q5 (PySem.W.mg_of X Gn a5),
    b_rim_of := at_binds r5 b5,
    F_four_about := at_fun q6 r6 F6, m_four_about := at_mg q6 (PySem.W.mg_of X Gn a6),
    b_four_about := at_binds r6 b6,
    F_pairs_of := at_fun q8 r8 F8, m_pairs_of := at_mg q8 (PySem.W.mg_of X Gn a8),
    b_pairs_of := at_binds r8 b8,
    F_spots_of := at_fun q9 r9 F9, m_spots_of := at_mg q9 (PySem.W.mg_of X Gn a9),
    b_spots_of := at_binds r9 b9,
    F_spots_with := at_fun q10 r10 F10, m_spots_with := at_mg q10 (PySem.W.mg_of X Gn a10),
    b_spots_with := at_binds r10 b10,
    F_east_fit := at_fun q11 r11 F11, m_east_fit := at_mg q11 (PySem.W.mg_of X Gn a11),
    b_east_fit := at_binds r11 b11,
    F_south_fit := at_fun q12 r12 F12, m_south_fit := at_mg q12 (PySem.W.mg_of X Gn a12),
    b_south_fit := at_binds r12 b12,
    F_four_fit := at_fun q13 r13 F13, m_four_fit := at_mg q13 (PySem.W.mg_of X Gn a13),
    b_four_fit := at_binds r13 b13,
    F_side_fit := at_fun q14 r14 F14, m_side_fit := at_mg q14 (PySem.W.mg_of X Gn a14),
    b_side_fit := at_binds r14 b14,
    F_stays := at_fun q15 r15 F15, m_stays := at_mg q15 (PySem.W.mg_of X Gn a15),
    b_stays := at_binds r15 b15,
    F_spot_fits := at_fun q16 r16 F16, m_spot_fits := at_mg q16 (PySem.W.mg_of X Gn a16),
    b_spot_fits := at_binds r16 b16,
    F_kinds_in := at_fun q17 r17 F17, m_kinds_in := at_mg q17 (PySem.W.mg_of X Gn a17),
    b_kinds_in := at_binds r17 b17,
    F_as_told := at_fun q20 r20 F20, m_as_told := at_mg q20 (PySem.W.mg_of X Gn a20),
    b_as_told := at_binds r20 b20,
    F_plain_pairs := at_fun q27 r27 F27, m_plain_pairs := at_mg q27 (PySem.W.mg_of X Gn a27),
    b_plain_pairs := at_binds r27 b27,
    F_plain_kinds := at_fun q29 r29 F29, m_plain_kinds := at_mg q29 (PySem.W.mg_of X Gn a29),
    b_plain_kinds := at_binds r29 b29,
    F_need_pair := at_fun q31 r31 F31, m_need_pair := at_mg q31 (PySem.W.mg_of X Gn a31),
    b_need_pair := at_binds r31 b31,
    F_need_kind := at_fun q32 r32 F32, m_need_kind := at_mg q32 (PySem.W.mg_of X Gn a32),
    b_need_kind := at_binds r32 b32,
    F_check_square := at_fun q33 r33 F33, m_check_square := at_mg q33 (PySem.W.mg_of X Gn a33),
    b_check_square := at_binds r33 b33,
    w_is_room_0 := at_kw r34 fun s ws _ hl => match ws, hl with | [_], _ => .of_eq rfl,
    F_is_room := at_fun q34 r34 F34, m_is_room := at_mg q34 (PySem.W.mg_of X Gn a34),
    b_is_room := at_binds r34 b34,
    w_is_square_0 := at_kw r35 fun s ws _ hl => match ws, hl with | [_, _], _ => .of_eq rfl,
    F_is_square := at_fun q35 r35 F35, m_is_square := at_mg q35 (PySem.W.mg_of X Gn a35),
    b_is_square := at_binds r35 b35,
    w_beside_0 := at_kw r36 fun s ws _ hl => match ws, hl with | [_, _], _ => .of_eq rfl,
    F_beside := at_fun q36 r36 F36, m_beside := at_mg q36 (PySem.W.mg_of X Gn a36),
    b_beside := at_binds r36 b36,
    w_around_0 := at_kw r37 fun s ws _ hl => match ws, hl with | [_, _], _ => .of_eq rfl,
    F_around := at_fun q37 r37 F37, m_around := at_mg q37 (PySem.W.mg_of X Gn a37),
    b_around := at_binds r37 b37,
    w_rim_0 := at_kw r38 fun s ws _ hl => match ws, hl with | [_], _ => .of_eq rfl,
    F_rim := at_fun q38 r38 F38, m_rim := at_mg q38 (PySem.W.mg_of X Gn a38),
    b_rim := at_binds r38 b38,
    w_inner_0 := at_kw r39 fun s ws _ hl => match ws, hl with | [_], _ => .of_eq rfl,
    F_inner := at_fun q39 r39 F39, m_inner := at_mg q39 (PySem.W.mg_of X Gn a39),
    b_inner := at_binds r39 b39,
    w_about_0 := at_kw r41 fun s ws _ hl => match ws, hl with | [_, _], _ => .of_eq rfl,
    F_about := at_fun q41 r41 F41, m_about := at_mg q41 (PySem.W.mg_of X Gn a41),
    b_about := at_binds r41 b41,
    w_sizes_0 := at_kw r42 fun s ws _ hl => match ws, hl with | [_], _ => .of_eq rfl,
    F_sizes := at_fun q42 r42 F42, m_sizes := at_mg q42 (PySem.W.mg_of X Gn a42),
    b_sizes := at_binds r42 b42,
    F_lot_from := at_fun q43 r43 F43, m_lot_from := at_mg q43 (PySem.W.mg_of X Gn a43),
    b_lot_from := at_binds r43 b43,
    F_lots := at_fun q44 r44 F44, m_lots := at_mg q44 (PySem.W.mg_of X Gn a44),
    b_lots := at_binds r44 b44,
    w_pieces_0 := at_kw r45 fun s ws _ hl => match ws, hl with | [_], _ => .of_eq rfl,
    F_pieces := at_fun q45 r45 F45, m_pieces := at_mg q45 (PySem.W.mg_of X Gn a45),
    b_pieces := at_binds r45 b45,
    F_drawn_in := at_fun q46 r46 F46, m_drawn_in := at_mg q46 (PySem.W.mg_of X Gn a46),
    b_drawn_in := at_binds r46 b46,
    w_pillars_0 := at_kw r47 fun s ws _ hl => match ws, hl with | [_], _ => .of_eq rfl,
    F_pillars := at_fun q47 r47 F47, m_pillars := at_mg q47 (PySem.W.mg_of X Gn a47),
    b_pillars := at_binds r47 b47,
    w_box_of_0 := at_kw r48 fun s ws _ hl => match ws, hl with | [_], _ => .of_eq rfl,
    F_box_of := at_fun q48 r48 F48, m_box_of := at_mg q48 (PySem.W.mg_of X Gn a48),
    b_box_of := at_binds r48 b48,
    w_boxed_0 := at_kw r49 fun s ws _ hl => match ws, hl with | [_, _], _ => .of_eq rfl,
    F_boxed := at_fun q49 r49 F49, m_boxed := at_mg q49 (PySem.W.mg_of X Gn a49),
    b_boxed := at_binds r49 b49,
    w_square_more_0 := at_kw r50 fun s ws _ hl => match ws, hl with | [_, _], _ => .of_eq rfl,
    F_square_more := at_fun q50 r50 F50, m_square_more := at_mg q50 (PySem.W.mg_of X Gn a50),
    b_square_more := at_binds r50 b50,
    w_square_less_0 := at_kw r51 fun s ws _ hl => match ws, hl with | [_, _], _ => .of_eq rfl,
    F_square_less := at_fun q51 r51 F51, m_square_less := at_mg q51 (PySem.W.mg_of X Gn a51),
    b_square_less := at_binds r51 b51,
    w_is_kind_0 := at_kw r52 fun s ws _ hl => match ws, hl with | [_], _ => .of_eq rfl,
    F_is_kind := at_fun q52 r52 F52, m_is_kind := at_mg q52 (PySem.W.mg_of X Gn a52),
    b_is_kind := at_binds r52 b52,
    w_is_laid_0 := at_kw r53 fun s ws _ hl => match ws, hl with | [_, _], _ => .of_eq rfl,
    F_is_laid := at_fun q53 r53 F53, m_is_laid := at_mg q53 (PySem.W.mg_of X Gn a53),
    b_is_laid := at_binds r53 b53,
    F_plain_spot := at_fun q54 r54 F54, m_plain_spot := at_mg q54 (PySem.W.mg_of X Gn a54),
    b_plain_spot := at_binds r54 b54,
    w_is_spot_0 := at_kw r55 fun s ws _ hl => match ws, hl with | [_, _], _ => .of_eq rfl,
    F_is_spot := at_fun q55 r55 F55, m_is_spot := at_mg q55 (PySem.W.mg_of X Gn a55),
    b_is_spot := at_binds r55 b55,
    w_kinds_at_0 := at_kw r56 fun s ws _ hl => match ws, hl with | [_, _], _ => .of_eq rfl,
    F_kinds_at := at_fun q56 r56 F56, m_kinds_at := at_mg q56 (PySem.W.mg_of X Gn a56),
    b_kinds_at := at_binds r56 b56,
    w_joined_with_0 := at_kw r57 fun s ws _ hl => match ws, hl with | [_, _, _], _ => .of_eq rfl,
    F_joined_with := at_fun q57 r57 F57, m_joined_with := at_mg q57 (PySem.W.mg_of X Gn a57),
    b_joined_with := at_binds r57 b57,
    w_fits_east_0 := at_kw r58 fun s ws _ hl => match ws, hl with | [_, _], _ => .of_eq rfl,
    F_fits_east := at_fun q58 r58 F58, m_fits_east := at_mg q58 (PySem.W.mg_of X Gn a58),
    b_fits_east := at_binds r58 b58,
    w_fits_south_0 := at_kw r59 fun s ws _ hl => match ws, hl with | [_, _], _ => .of_eq rfl,
    F_fits_south := at_fun q59 r59 F59, m_fits_south := at_mg q59 (PySem.W.mg_of X Gn a59),
    b_fits_south := at_binds r59 b59,
    w_point_fits_0 := at_kw r60 fun s ws _ hl => match ws, hl with | [_], _ => .of_eq rfl,
    F_point_fits := at_fun q60 r60 F60, m_point_fits := at_mg q60 (PySem.W.mg_of X Gn a60),
    b_point_fits := at_binds r60 b60,
    w_spots_0 := at_kw r61 fun s ws _ hl => match ws, hl with | [_], _ => .of_eq rfl,
    F_spots := at_fun q61 r61 F61, m_spots := at_mg q61 (PySem.W.mg_of X Gn a61),
    b_spots := at_binds r61 b61,
    w_spots_at_0 := at_kw r62 fun s ws _ hl => match ws, hl with | [_, _], _ => .of_eq rfl,
    F_spots_at := at_fun q62 r62 F62, m_spots_at := at_mg q62 (PySem.W.mg_of X Gn a62),
    b_spots_at := at_binds r62 b62,
    w_fits_at_0 := at_kw r63 fun s ws _ hl => match ws, hl with | [_, _, _], _ => .of_eq rfl,
    F_fits_at := at_fun q63 r63 F63, m_fits_at := at_mg q63 (PySem.W.mg_of X Gn a63),
    b_fits_at := at_binds r63 b63,
    w_fitting_0 := at_kw r64 fun s ws _ hl => match ws, hl with | [_, _], _ => .of_eq rfl,
    F_fitting := at_fun q64 r64 F64, m_fitting := at_mg q64 (PySem.W.mg_of X Gn a64),
    b_fitting := at_binds r64 b64,
    F__law_box := at_fun q65 r65 F65, m__law_box := at_mg q65 (PySem.W.mg_of X Gn a65),
    b__law_box := at_binds r65 b65,
    F__law_take := at_fun q66 r66 F66, m__law_take := at_mg q66 (PySem.W.mg_of X Gn a66),
    b__law_take := at_binds r66 b66,
    F__law_cells := at_fun q67 r67 F67, m__law_cells := at_mg q67 (PySem.W.mg_of X Gn a67),
    b__law_cells := at_binds r67 b67,
    F__law_lists := at_fun q68 r68 F68, m__law_lists := at_mg q68 (PySem.W.mg_of X Gn a68),
    b__law_lists := at_binds r68 b68,
    F__law_same := at_fun q69 r69 F69, m__law_same := at_mg q69 (PySem.W.mg_of X Gn a69),
    b__law_same := at_binds r69 b69,
    F__law_nook := at_fun q70 r70 F70, m__law_nook := at_mg q70 (PySem.W.mg_of X Gn a70),
    b__law_nook := at_binds r70 b70,
    F__law_room_asked := at_fun q71 r71 F71, m__law_room_asked := at_mg q71 (PySem.W.mg_of X Gn a71),
    b__law_room_asked := at_binds r71 b71,
    F__law_part_asked := at_fun q72 r72 F72, m__law_part_asked := at_mg q72 (PySem.W.mg_of X Gn a72),
    b__law_part_asked := at_binds r72 b72,
    F__law_kind_asked := at_fun q73 r73 F73, m__law_kind_asked := at_mg q73 (PySem.W.mg_of X Gn a73),
    b__law_kind_asked := at_binds r73 b73,
    F__law_laid_asked := at_fun q74 r74 F74, m__law_laid_asked := at_mg q74 (PySem.W.mg_of X Gn a74),
    b__law_laid_asked := at_binds r74 b74,
    F__law_box_asked := at_fun q75 r75 F75, m__law_box_asked := at_mg q75 (PySem.W.mg_of X Gn a75),
    b__law_box_asked := at_binds r75 b75,
    F__law_heard := at_fun q76 r76 F76, m__law_heard := at_mg q76 (PySem.W.mg_of X Gn a76),
    b__law_heard := at_binds r76 b76,
    F__law_last_heard := at_fun q77 r77 F77, m__law_last_heard := at_mg q77 (PySem.W.mg_of X Gn a77),
    b__law_last_heard := at_binds r77 b77,
    F__law_out_heard := at_fun q78 r78 F78, m__law_out_heard := at_mg q78 (PySem.W.mg_of X Gn a78),
    b__law_out_heard := at_binds r78 b78,
    F__law_none_right := at_fun q79 r79 F79, m__law_none_right := at_mg q79 (PySem.W.mg_of X Gn a79),
    b__law_none_right := at_binds r79 b79,
    F__law_refused_right := at_fun q80 r80 F80, m__law_refused_right := at_mg q80 (PySem.W.mg_of X Gn a80),
    b__law_refused_right := at_binds r80 b80,
    F__law_soft_right := at_fun q81 r81 F81, m__law_soft_right := at_mg q81 (PySem.W.mg_of X Gn a81),
    b__law_soft_right := at_binds r81 b81,
    F_law := at_fun q82 r82 F82, m_law := at_mg q82 (PySem.W.mg_of X Gn a82),
    b_law := at_binds r82 b82,
    E_NoPoint := at_errC qC0 ⟨⟨_, _, _, _, _, _, _, _, _, _, _, _, _, _, xL0⟩, O0.setA, O0.isE, O0.isT, O0.kept⟩,
    n_NoPoint := at_mg qC0 (PySem.W.mg_of X Gn aC0), i_NoPoint := at_init qC0 qI0 ai0, j_NoPoint := at_type qI0 O0.fn, I_NoPoint := at_fun qI0 rI0 FI0, B_NoPoint := at_binds rI0 bI0, S_NoPoint := at_su qC0 O0.su, f_NoPoint := qf0,
    h_NoPoint := at_no qC0 (O0.no _ (List.mem_singleton.mpr rfl)),
    x_0_0 := at_exm qC0 qC0 (exmB_ok xm 0 0 (by decide : 0 < 4) (by decide : 0 < 4)), x_0_1 := at_exm qC0 qC1 (exmB_ok xm 0 1 (by decide : 0 < 4) (by decide : 1 < 4)), x_0_2 := at_exm qC0 qC2 (exmB_ok xm 0 2 (by decide : 0 < 4) (by decide : 2 < 4)), x_0_3 := at_exm qC0 qC3 (exmB_ok xm 0 3 (by decide : 0 < 4) (by decide : 3 < 4)),
    E_NoSquare := at_errC qC1 ⟨⟨_, _, _, _, _, _, _, _, _, _, _, _, _, _, xL1⟩, O1.setA, O1.isE, O1.isT, O1.kept⟩,
    n_NoSquare := at_mg qC1 (PySem.W.mg_of X Gn aC1), i_NoSquare := at_init qC1 qI1 ai1, j_NoSquare := at_type qI1 O1.fn, I_NoSquare := at_fun qI1 rI1 FI1, B_NoSquare := at_binds rI1 bI1, S_NoSquare := at_su qC1 O1.su, f_NoSquare := qf1,
    h_NoSquare := at_no qC1 (O1.no _ (List.mem_singleton.mpr rfl)),
    x_1_0 := at_exm qC1 qC0 (exmB_ok xm 1 0 (by decide : 1 < 4) (by decide : 0 < 4)), x_1_1 := at_exm qC1 qC1 (exmB_ok xm 1 1 (by decide : 1 < 4) (by decide : 1 < 4)), x_1_2 := at_exm qC1 qC2 (exmB_ok xm 1 2 (by decide : 1 < 4) (by decide : 2 < 4)), x_1_3 := at_exm qC1 qC3 (exmB_ok xm 1 3 (by decide : 1 < 4) (by decide : 3 < 4)),
    E_CanNot := at_errC qC2 ⟨⟨_, _, _, _, _, _, _, _, _, _, _, _, _, _, xL2⟩, O2.setA, O2.isE, O2.isT, O2.kept⟩,
    n_CanNot := at_mg qC2 (PySem.W.mg_of X Gn aC2), i_CanNot := at_init qC2 qI2 ai2, j_CanNot := at_type qI2 O2.fn, I_CanNot := at_fun qI2 rI2 FI2, B_CanNot := at_binds rI2 bI2, S_CanNot := at_su qC2 O2.su, f_CanNot := qf2,
    x_2_0 := at_exm qC2 qC0 (exmB_ok xm 2 0 (by decide : 2 < 4) (by decide : 0 < 4)), x_2_1 := at_exm qC2 qC1 (exmB_ok xm 2 1 (by decide : 2 < 4) (by decide : 1 < 4)), x_2_2 := at_exm qC2 qC2 (exmB_ok xm 2 2 (by decide : 2 < 4) (by decide : 2 < 4)), x_2_3 := at_exm qC2 qC3 (exmB_ok xm 2 3 (by decide : 2 < 4) (by decide : 3 < 4)),
    E_Unfit := at_errC qC3 ⟨⟨_, _, _, _, _, _, _, _, _, _, _, _, _, _, xL3⟩, O3.setA, O3.isE, O3.isT, O3.kept⟩,
    n_Unfit := at_mg qC3 (PySem.W.mg_of X Gn aC3), i_Unfit := at_init qC3 qI3 ai3, j_Unfit := at_type qI3 O3.fn, I_Unfit := at_fun qI3 rI3 FI3, B_Unfit := at_binds rI3 bI3, S_Unfit := at_su qC3 O3.su, f_Unfit := qf3,
    x_3_0 := at_exm qC3 qC0 (exmB_ok xm 3 0 (by decide : 3 < 4) (by decide : 0 < 4)), x_3_1 := at_exm qC3 qC1 (exmB_ok xm 3 1 (by decide : 3 < 4) (by decide : 1 < 4)), x_3_2 := at_exm qC3 qC2 (exmB_ok xm 3 2 (by decide : 3 < 4) (by decide : 2 < 4)), x_3_3 := at_exm qC3 qC3 (exmB_ok xm 3 3 (by decide : 3 < 4) (by decide : 3 < 4)),
    v_LookupError := vbLookupError,
    v_ValueError := vbValueError,
    q_CanNot_ValueError := at_kit qC2 (of_decide_eq_true ktCanNotValueError),
    q_NoPoint_LookupError := at_kit qC0 (of_decide_eq_true ktNoPointLookupError),
    q_NoSquare_LookupError := at_kit qC1 (of_decide_eq_true ktNoSquareLookupError),
    q_Unfit_ValueError := at_kit qC3 (of_decide_eq_true ktUnfitValueError),
    z_LookupError := PySem.W.mg_none_of X Gn z_LookupError,
    z_ValueError := PySem.W.mg_none_of X Gn z_ValueError,
    z_abs := PySem.W.mg_none_of X Gn z_abs,
    z_all := PySem.W.mg_none_of X Gn z_all,
    z_any := PySem.W.mg_none_of X Gn z_any,
    z_bool := PySem.W.mg_none_of X Gn z_bool,
    z_dict := PySem.W.mg_none_of X Gn z_dict,
    z_enumerate := PySem.W.mg_none_of X Gn z_enumerate,
    z_int := PySem.W.mg_none_of X Gn z_int,
    z_isinstance := PySem.W.mg_none_of X Gn z_isinstance,
    z_len := PySem.W.mg_none_of X Gn z_len,
    z_list := PySem.W.mg_none_of X Gn z_list,
    z_max := PySem.W.mg_none_of X Gn z_max,
    z_min := PySem.W.mg_none_of X Gn z_min,
    z_range := PySem.W.mg_none_of X Gn z_range,
    z_set := PySem.W.mg_none_of X Gn z_set,
    z_sorted := PySem.W.mg_none_of X Gn z_sorted,
    z_str := PySem.W.mg_none_of X Gn z_str,
    z_tuple := PySem.W.mg_none_of X Gn z_tuple,
    z_zip := PySem.W.mg_none_of X Gn z_zip,
    c_TOWARD := const_t rfl (PySem.W.mg_of X Gn c_TOWARD) v_TOWARD,
    c_AROUND := const_t rfl (PySem.W.mg_of X Gn c_AROUND) v_AROUND,
    c_EAST := ⟨_, PySem.W.mg_of X Gn c_EAST⟩,
    c_WEST := ⟨_, PySem.W.mg_of X Gn c_WEST⟩,
    c_SOUTH := ⟨_, PySem.W.mg_of X Gn c_SOUTH⟩,
    c_NORTH := ⟨_, PySem.W.mg_of X Gn c_NORTH⟩,
    c_SIDES := const_t rfl (PySem.W.mg_of X Gn c_SIDES) v_SIDES }
  exact ⟨_, fun s v => .of_eq rfl, fun base _ _ => at_ok q82 r82 ((law_imp (ok_law T) law_true))⟩
end RE.Kx
open PySem PySem.W PyProof.Rows
set_option maxHeartbeats 0 in
theorem PySem.Challenge.cw_tatamirooms_k07_rooms_and_kinds_refused_holds : PySem.Challenge.rw_tatamirooms_k07_rooms_and_kinds_refused.Holds := by
  w_on; o_law; k_head; (case hw => w_witness2)
  k_fill
  refine L2.walk_of (l := PySem.Challenge.rw_tatamirooms_k07_rooms_and_kinds_refused) (n := 63) (k := 15) (x := "script") (CX := fun w => L2.CX PySem.Challenge.rw_tatamirooms_k07_rooms_and_kinds_refused.prog w) (sp := fun w => RE.spLaw _) rfl (by decide) rfl ⟨rfl, by decide, by decide⟩ (fun w h Y => PySem.W.kIn_of Y) ?F (fun _ _ a ns hl hO hS => ⟨a, ns, rfl, hO, hS, hl, fun _ => rfl⟩) (fun _ _ _ _ _ h => RE.cx_no h)
  case F =>
    intro w mg fa h KX G hmg
    refine' RE.Kx.all_mk KX G hmg ?a0 ?l0 ?c0 ?k0 ?a1 ?l1 ?c1 ?k1 ?a2 ?l2 ?c2 ?k2 ?a3 ?l3 ?c3 ?k3 ?a7 ?l7 ?c7 ?k7 ?a19 ?l19 ?c19 ?k19 ?a18 ?l18 ?c18 ?k18 ?a23 ?l23 ?c23 ?k23 ?a24 ?l24 ?c24 ?k24 ?a21 ?l21 ?c21 ?k21 ?df21 ?a22 ?l22 ?c22 ?k22 ?a25 ?l25 ?c25 ?k25 ?a26 ?l26 ?c26 ?k26 ?a28 ?l28 ?c28 ?k28 ?a30 ?l30 ?c30 ?k30 ?a40 ?l40 ?c40 ?k40 ?a4 ?l4 ?c4 ?k4 ?a5 ?l5 ?c5 ?k5 ?a6 ?l6 ?c6 ?k6 ?a8 ?l8 ?c8 ?k8 ?a9 ?l9 ?c9 ?k9 ?a10 ?l10 ?c10 ?k10 ?a11 ?l11 ?c11 ?k11 ?a12 ?l12 ?c12 ?k12 ?a13 ?l13 ?c13 ?k13 ?a14 ?l14 ?c14 ?k14 ?a15 ?l15 ?c15 ?k15 ?a16 ?l16 ?c16 ?k16 ?a17 ?l17 ?c17 ?k17 ?a20 ?l20 ?c20 ?k20 ?a27 ?l27 ?c27 ?k27 ?a29 ?l29 ?c29 ?k29 ?a31 ?l31 ?c31 ?k31 ?a32 ?l32 ?c32 ?k32 ?a33 ?l33 ?c33 ?k33 ?a34 ?l34 ?c34 ?k34 ?a35 ?l35 ?c35 ?k35 ?a36 ?l36 ?c36 ?k36 ?a37 ?l37 ?c37 ?k37 ?a38 ?l38 ?c38 ?k38 ?a39 ?l39 ?c39 ?k39 ?a41 ?l41 ?c41 ?k41 ?a42 ?l42 ?c42 ?k42 ?a43 ?l43 ?c43 ?k43 ?a44 ?l44 ?c44 ?k44 ?a45 ?l45 ?c45 ?k45 ?a46 ?l46 ?c46 ?k46 ?a47 ?l47 ?c47 ?k47 ?a48 ?l48 ?c48 ?k48 ?a49 ?l49 ?c49 ?k49 ?a50 ?l50 ?c50 ?k50 ?a51 ?l51 ?c51 ?k51 ?a52 ?l52 ?c52 ?k52 ?a53 ?l53 ?c53 ?k53 ?a54 ?l54 ?c54 ?k54 ?a55 ?l55 ?c55 ?k55 ?a56 ?l56 ?c56 ?k56 ?a57 ?l57 ?c57 ?k57 ?a58 ?l58 ?c58 ?k58 ?a59 ?l59 ?c59 ?k59 ?a60 ?l60 ?c60 ?k60 ?a61 ?l61 ?c61 ?k61 ?a62 ?l62 ?c62 ?k62 ?a63 ?l63 ?c63 ?k63 ?a64 ?l64 ?c64 ?k64 ?a65 ?l65 ?c65 ?k65 ?a66 ?l66 ?c66 ?k66 ?a67 ?l67 ?c67 ?k67 ?a68 ?l68 ?c68 ?k68 ?a69 ?l69 ?c69 ?k69 ?a70 ?l70 ?c70 ?k70 ?a71 ?l71 ?c71 ?k71 ?a72 ?l72 ?c72 ?k72 ?a73 ?l73 ?c73 ?k73 ?a74 ?l74 ?c74 ?k74 ?a75 ?l75 ?c75 ?k75 ?a76 ?l76 ?c76 ?k76 ?a77 ?l77 ?c77 ?k77 ?a78 ?l78 ?c78 ?k78 ?a79 ?l79 ?c79 ?k79 ?a80 ?l80 ?c80 ?k80 ?a81 ?l81 ?c81 ?k81 ?a82 ?l82 ?c82 ?k82 ?aC0 ?xL0 ?ai0 ?li0 ?ci0 ?ki0 ?eb0 ?aC1 ?xL1 ?ai1 ?li1 ?ci1 ?ki1 ?eb1 ?aC2 ?xL2 ?ai2 ?li2 ?ci2 ?ki2 ?eb2 ?aC3 ?xL3 ?ai3 ?li3 ?ci3 ?ki3 ?eb3 ?xm ?vbLookupError ?vbValueError ?ktCanNotValueError ?ktNoPointLookupError ?ktNoSquareLookupError ?ktUnfitValueError ?z_LookupError ?z_ValueError ?z_abs ?z_all ?z_any ?z_bool ?z_dict ?z_enumerate ?z_int ?z_isinstance ?z_len ?z_list ?z_max ?z_min ?z_range ?z_set ?z_sorted ?z_str ?z_tuple ?z_zip ?c_TOWARD ?v_TOWARD ?c_AROUND ?v_AROUND ?c_EAST ?c_WEST ?c_SOUTH ?c_NORTH ?c_SIDES ?v_SIDES
    (case a0 => k_is); (case l0 => k_is); (case c0 => k_is); (case k0 => k_is); (case a1 => k_is); (case l1 => k_is); (case c1 => k_is); (case k1 => k_is); (case a2 => k_is); (case l2 => k_is); (case c2 => k_is); (case k2 => k_is); (case a3 => k_is); (case l3 => k_is); (case c3 => k_is); (case k3 => k_is); (case a7 => k_is); (case l7 => k_is); (case c7 => k_is); (case k7 => k_is); (case a19 => k_is); (case l19 => k_is); (case c19 => k_is); (case k19 => k_is); (case a18 => k_is); (case l18 => k_is); (case c18 => k_is); (case k18 => k_is); (case a23 => k_is); (case l23 => k_is); (case c23 => k_is); (case k23 => k_is); (case a24 => k_is); (case l24 => k_is); (case c24 => k_is); (case k24 => k_is); (case a21 => k_is); (case l21 => k_is); (case c21 => k_is); (case k21 => k_is); (case df21 => kernel_rfl); (case a22 => k_is); (case l22 => k_is); (case c22 => k_is); (case k22 => k_is); (case a25 => k_is); (case l25 => k_is); (case c25 => k_is); (case k25 => k_is); (case a26 => k_is); (case l26 => k_is); (case c26 => k_is); (case k26 => k_is); (case a28 => k_is); (case l28 => k_is); (case c28 => k_is); (case k28 => k_is); (case a30 => k_is); (case l30 => k_is); (case c30 => k_is); (case k30 => k_is); (case a40 => k_is); (case l40 => k_is); (case c40 => k_is); (case k40 => k_is); (case a4 => k_is); (case l4 => k_is); (case c4 => k_is); (case k4 => k_is); (case a5 => k_is); (case l5 => k_is); (case c5 => k_is); (case k5 => k_is); (case a6 => k_is); (case l6 => k_is); (case c6 => k_is); (case k6 => k_is); (case a8 => k_is); (case l8 => k_is); (case c8 => k_is); (case k8 => k_is); (case a9 => k_is); (case l9 => k_is); (case c9 => k_is); (case k9 => k_is); (case a10 => k_is); (case l10 => k_is); (case c10 => k_is); (case k10 => k_is); (case a11 => k_is); (case l11 => k_is); (case c11 => k_is); (case k11 => k_is); (case a12 => k_is); (case l12 => k_is); (case c12 => k_is); (case k12 => k_is); (case a13 => k_is); (case l13 => k_is); (case c13 => k_is); (case k13 => k_is); (case a14 => k_is); (case l14 => k_is); (case c14 => k_is); (case k14 => k_is); (case a15 => k_is); (case l15 => k_is); (case c15 => k_is); (case k15 => k_is); (case a16 => k_is); (case l16 => k_is); (case c16 => k_is); (case k16 => k_is); (case a17 => k_is); (case l17 => k_is); (case c17 => k_is); (case k17 => k_is); (case a20 => k_is); (case l20 => k_is); (case c20 => k_is); (case k20 => k_is); (case a27 => k_is); (case l27 => k_is); (case c27 => k_is); (case k27 => k_is); (case a29 => k_is); (case l29 => k_is); (case c29 => k_is); (case k29 => k_is); (case a31 => k_is); (case l31 => k_is); (case c31 => k_is); (case k31 => k_is); (case a32 => k_is); (case l32 => k_is); (case c32 => k_is); (case k32 => k_is); (case a33 => k_is); (case l33 => k_is); (case c33 => k_is); (case k33 => k_is); (case a34 => k_is); (case l34 => k_is); (case c34 => k_is); (case k34 => k_is); (case a35 => k_is); (case l35 => k_is); (case c35 => k_is); (case k35 => k_is); (case a36 => k_is); (case l36 => k_is); (case c36 => k_is); (case k36 => k_is); (case a37 => k_is); (case l37 => k_is); (case c37 => k_is); (case k37 => k_is); (case a38 => k_is); (case l38 => k_is); (case c38 => k_is); (case k38 => k_is); (case a39 => k_is); (case l39 => k_is); (case c39 => k_is); (case k39 => k_is); (case a41 => k_is); (case l41 => k_is); (case c41 => k_is); (case k41 => k_is); (case a42 => k_is); (case l42 => k_is); (case c42 => k_is); (case k42 => k_is); (case a43 => k_is); (case l43 => k_is); (case c43 => k_is); (case k43 => k_is); (case a44 => k_is); (case l44 => k_is); (case c44 => k_is); (case k44 => k_is); (case a45 => k_is); (case l45 => k_is); (case c45 => k_is); (case k45 => k_is); (case a46 => k_is); (case l46 => k_is); (case c46 => k_is); (case k46 => k_is); (case a47 => k_is); (case l47 => k_is); (case c47 => k_is); (case k47 => k_is); (case a48 => k_is); (case l48 => k_is); (case c48 => k_is); (case k48 => k_is); (case a49 => k_is); (case l49 => k_is); (case c49 => k_is); (case k49 => k_is); (case a50 => k_is); (case l50 => k_is); (case c50 => k_is); (case k50 => k_is); (case a51 => k_is); (case l51 => k_is); (case c51 => k_is); (case k51 => k_is); (case a52 => k_is); (case l52 => k_is); (case c52 => k_is); (case k52 => k_is); (case a53 => k_is); (case l53 => k_is); (case c53 => k_is); (case k53 => k_is); (case a54 => k_is); (case l54 => k_is); (case c54 => k_is); (case k54 => k_is); (case a55 => k_is); (case l55 => k_is); (case c55 => k_is); (case k55 => k_is); (case a56 => k_is); (case l56 => k_is); (case c56 => k_is); (case k56 => k_is); (case a57 => k_is); (case l57 => k_is); (case c57 => k_is); (case k57 => k_is); (case a58 => k_is); (case l58 => k_is); (case c58 => k_is); (case k58 => k_is); (case a59 => k_is); (case l59 => k_is); (case c59 => k_is); (case k59 => k_is); (case a60 => k_is); (case l60 => k_is); (case c60 => k_is); (case k60 => k_is); (case a61 => k_is); (case l61 => k_is); (case c61 => k_is); (case k61 => k_is); (case a62 => k_is); (case l62 => k_is); (case c62 => k_is); (case k62 => k_is); (case a63 => k_is); (case l63 => k_is); (case c63 => k_is); (case k63 => k_is); (case a64 => k_is); (case l64 => k_is); (case c64 => k_is); (case k64 => k_is); (case a65 => k_is); (case l65 => k_is); (case c65 => k_is); (case k65 => k_is); (case a66 => k_is); (case l66 => k_is); (case c66 => k_is); (case k66 => k_is); (case a67 => k_is); (case l67 => k_is); (case c67 => k_is); (case k67 => k_is); (case a68 => k_is); (case l68 => k_is); (case c68 => k_is); (case k68 => k_is); (case a69 => k_is); (case l69 => k_is); (case c69 => k_is); (case k69 => k_is); (case a70 => k_is); (case l70 => k_is); (case c70 => k_is); (case k70 => k_is); (case a71 => k_is); (case l71 => k_is); (case c71 => k_is); (case k71 => k_is); (case a72 => k_is); (case l72 => k_is); (case c72 => k_is); (case k72 => k_is); (case a73 => k_is); (case l73 => k_is); (case c73 => k_is); (case k73 => k_is); (case a74 => k_is); (case l74 => k_is); (case c74 => k_is); (case k74 => k_is); (case a75 => k_is); (case l75 => k_is); (case c75 => k_is); (case k75 => k_is); (case a76 => k_is); (case l76 => k_is); (case c76 => k_is); (case k76 => k_is); (case a77 => k_is); (case l77 => k_is); (case c77 => k_is); (case k77 => k_is); (case a78 => k_is); (case l78 => k_is); (case c78 => k_is); (case k78 => k_is); (case a79 => k_is); (case l79 => k_is); (case c79 => k_is); (case k79 => k_is); (case a80 => k_is); (case l80 => k_is); (case c80 => k_is); (case k80 => k_is); (case a81 => k_is); (case l81 => k_is); (case c81 => k_is); (case k81 => k_is); (case a82 => k_is); (case l82 => k_is); (case c82 => k_is); (case k82 => k_is); (case aC0 => k_is); (case xL0 => k_is); (case ai0 => k_is); (case li0 => k_is); (case ci0 => k_is); (case ki0 => k_is); (case eb0 => kernel_rfl); (case aC1 => k_is); (case xL1 => k_is); (case ai1 => k_is); (case li1 => k_is); (case ci1 => k_is); (case ki1 => k_is); (case eb1 => kernel_rfl); (case aC2 => k_is); (case xL2 => k_is); (case ai2 => k_is); (case li2 => k_is); (case ci2 => k_is); (case ki2 => k_is); (case eb2 => kernel_rfl); (case aC3 => k_is); (case xL3 => k_is); (case ai3 => k_is); (case li3 => k_is); (case ci3 => k_is); (case ki3 => k_is); (case eb3 => kernel_rfl); (case xm => kernel_rfl); (case vbLookupError => kernel_rfl); (case vbValueError => kernel_rfl); (case ktCanNotValueError => kernel_rfl); (case ktNoPointLookupError => kernel_rfl); (case ktNoSquareLookupError => kernel_rfl); (case ktUnfitValueError => kernel_rfl); (case z_LookupError => k_is); (case z_ValueError => k_is); (case z_abs => k_is); (case z_all => k_is); (case z_any => k_is); (case z_bool => k_is); (case z_dict => k_is); (case z_enumerate => k_is); (case z_int => k_is); (case z_isinstance => k_is); (case z_len => k_is); (case z_list => k_is); (case z_max => k_is); (case z_min => k_is); (case z_range => k_is); (case z_set => k_is); (case z_sorted => k_is); (case z_str => k_is); (case z_tuple => k_is); (case z_zip => k_is); (case c_TOWARD => k_is); (case v_TOWARD => kernel_rfl); (case c_AROUND => k_is); (case v_AROUND => kernel_rfl); (case c_EAST => k_is); (case c_WEST => k_is); (case c_SOUTH => k_is); (case c_NORTH => k_is); (case c_SIDES => k_is); (case v_SIDES => kernel_rfl)
