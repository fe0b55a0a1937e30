import PyProof.Rows.All
import HandS.ForMost
import HandS.ForExc
import HandS.TupAny
import HandS.CallSlots
import HandS.More
import HandS.IsInst
import HandS.Style
import HandS.Gcd
import HandS.SortInts
import KE.DataMinMax
import KE.SortData
import HandS.Sort
import HandS.RevRange
import KE.GoesNew
import HandS.TupMul
import HandS.SortRule
import HandS.NamedTupSort
import HandS.TupSets
import HandS.Conv
import HandS.SortKw
import HandS.Deep
import PyProof.FactsAll.dict
import HandS.ExcInit
import HandS.ExcOwn
import HandS.FStr
import PyProof.FString2
import KE.KExcSuper
import HandS.Words
import HandS.ExcValue
import HandS.ExcIs
import HandS.ExcField
import HandS.TryMany
import KE.KExcIs
import PyProof.StrOps2
import PySem.Challenge.RW_lotplans_k90_known_even_amounts
set_option Elab.async false
set_option linter.all false
set_option maxRecDepth 100000
namespace DN
open PySem PySem.Spec L2

abbrev Dt := PyData

/-- a thing that a def owns alone and may change -/
inductive Ob where
  | lst (ds : List Dt)
  | dk (kvs : List (Key × Dt))
  | dt (kvs : List (List Key × Dt))

/-- what a slot holds: data that stands for good, an owned thing, an owned thing of the caller's -/
inductive Sv where
  | val (d : Dt)
  | own (o : Ob)
  | arg (o : Ob)

abbrev Rh := List (Option Sv)

structure Exn where
  cls : Str
  flds : List (Str × Dt)

inductive Out (α : Type) where
  | ok (a : α) (r : Rh)
  | exn (x : Exn) (r : Rh)
  | stuck

abbrev Mo (α : Type) := Rh → Out α

@[inline] def ret {α : Type} (a : α) : Mo α := fun r => .ok a r
def bnd {α β : Type} (m : Mo α) (k : α → Mo β) : Mo β := fun r => match m r with
  | .ok a r' => k a r'
  | .exn x r' => .exn x r'
  | .stuck => .stuck
def bad {α : Type} : Mo α := fun _ => .stuck
def opt {α : Type} (o : Option α) : Mo α := fun r => match o with
  | some a => .ok a r
  | none => .stuck

/-- the tuples that are constants of a module, as data (the text is assembled with those of the law) -/
def kcAll : List (List Dt) := []
/-- what begins with a text is no key of a dict -/
def strHd : List Dt → Bool
  | .str _ :: _ => true
  | _ => false
def kcOk : Bool := kcAll.all strHd
/-- keys as data -/
def kD : Key → Dt
  | .inl i => .int i
  | .inr x => .str x
def dtD (kvs : List (List Key × Dt)) : List (Dt × Dt) := kvs.map fun p => (.tuple (p.1.map kD), p.2)
def dkD (kvs : List (Key × Dt)) : List (Dt × Dt) := kvs.map fun p => (kD p.1, p.2)
/-- a tuple of the program's own, or a constant of a module -/
def TupAt (K : PySem.W.Frag) (F : Hp) (a : Addr) (xs : List V) (ds : List Dt) : Prop := F a = some (.tup xs) ∨ ((∃ (o : Obj) (its : Array Value) (n : Nat), K.lookup a = some o ∧ o.cls = .type "tuple" ∧ o.data = .seq its n ∧ its.size ≤ sizeLine ∧ Vals xs its.toList) ∧ ds ∈ kcAll)
mutual
/-- a value and the data that it stands for: lists as they were made, tuples, a list that is known (in a dict's place) -/
inductive Df (K : PySem.W.Frag) (F : Hp) : V → Dt → Prop
  | non : Df K F .non .none
  | bl (b : Bool) : Df K F (.bl b) (.bool b)
  | int (i : Int) : Df K F (.int i) (.int i)
  | str (x : Str) : Df K F (.str x) (.str x)
  | lst {a : Addr} {xs : List V} {ds : List Dt} : F a = some (.lst xs) → DfAll K F xs ds → Df K F (.ref a) (.list ds)
  | tup {a : Addr} {xs : List V} {ds : List Dt} : TupAt K F a xs ds → DfAll K F xs ds → Df K F (.ref a) (.tuple ds)
  | dkt {a : Addr} {ks : List (List Key × V)} {kvs : List (List Key × Dt)} : F a = some (.dT ks) → ks.map (·.1) = kvs.map (·.1) → DfAll K F (ks.map (·.2)) (kvs.map (·.2)) → Df K F (.ref a) (.dict ((.bool true, .none) :: dtD kvs))
  | dkk {a : Addr} {ks : List (Key × V)} {kvs : List (Key × Dt)} : F a = some (.dK ks) → ks.map (·.1) = kvs.map (·.1) → DfAll K F (ks.map (·.2)) (kvs.map (·.2)) → Df K F (.ref a) (.dict ((.bool false, .none) :: dkD kvs))
  | frl {a : Addr} {xs : List V} {ds : List Dt} : SqL K F a xs → DfAll K F xs ds → Df K F (.ref a) (.dict [(.none, .list ds)])
inductive DfAll (K : PySem.W.Frag) (F : Hp) : List V → List Dt → Prop
  | nil : DfAll K F [] []
  | cons {v : V} {vs : List V} {d : Dt} {ds : List Dt} : Df K F v d → DfAll K F vs ds → DfAll K F (v :: vs) (d :: ds)
end

theorem same_seqT {K : PySem.W.Frag} {F F' : Hp} {a : Addr} {xs : List V} (e : Same F F') {ds : List Dt} (h : TupAt K F a xs ds) : SqT K F' a xs := by
  rcases h with h | h
  · exact .inl (.inl (e _ _ h))
  · exact .inr h.1
theorem TupAt.mono {K : PySem.W.Frag} {F F' : Hp} {a : Addr} {xs : List V} {ds : List Dt} (e : Same F F') (h : TupAt K F a xs ds) : TupAt K F' a xs ds := h.elim (fun z => .inl (e _ _ z)) .inr
theorem TupAt.own {K : PySem.W.Frag} {F : Hp} {a : Addr} {xs : List V} {ds : List Dt} (h : TupAt K F a xs ds) (hk : kcOk = true) (hn : strHd ds = false) : F a = some (.tup xs) := by
  rcases h with h | h
  · exact h
  · have := h.2
    have z := List.all_eq_true.mp hk ds this
    rw [hn] at z
    cases z
theorem TupAt.sq {K : PySem.W.Frag} {F : Hp} {a : Addr} {xs : List V} {ds : List Dt} (h : TupAt K F a xs ds) : SqT K F a xs := h.elim (fun z => .inl (.inl z)) fun z => .inr z.1

mutual
theorem df_mono {K : PySem.W.Frag} {F F' : Hp} (S : Same F F') : ∀ {d : Dt} {v : V}, Df K F v d → Df K F' v d
  | _, _, .non => .non
  | _, _, .bl b => .bl b
  | _, _, .int i => .int i
  | _, _, .str x => .str x
  | _, _, .lst h1 h2 => .lst (S _ _ h1) (dfAll_mono S h2)
  | _, _, .tup h1 h2 => .tup (h1.mono S) (dfAll_mono S h2)
  | _, _, .dkt h1 h0 h2 => .dkt (S _ _ h1) h0 (dfAll_mono S h2)
  | _, _, .dkk h1 h0 h2 => .dkk (S _ _ h1) h0 (dfAll_mono S h2)
  | _, _, .frl h1 h2 => .frl (S.seq h1) (dfAll_mono S h2)
theorem dfAll_mono {K : PySem.W.Frag} {F F' : Hp} (S : Same F F') : ∀ {ds : List Dt} {vs : List V}, DfAll K F vs ds → DfAll K F' vs ds
  | _, _, .nil => .nil
  | _, _, .cons h1 h2 => .cons (df_mono S h1) (dfAll_mono S h2)
end

theorem dfAll_len {K : PySem.W.Frag} {F : Hp} : ∀ {vs : List V} {ds : List Dt}, DfAll K F vs ds → vs.length = ds.length
  | _, _, .nil => rfl
  | _, _, .cons _ t => congrArg (· + 1) (dfAll_len t)
theorem dfAll_get {K : PySem.W.Frag} {F : Hp} : ∀ {vs : List V} {ds : List Dt} {i : Nat} {d : Dt}, DfAll K F vs ds → ds[i]? = some d → ∃ v, vs[i]? = some v ∧ Df K F v d
  | _, _, _, _, .nil, e => by simp at e
  | _, _, 0, _, .cons h _, e => by simp at e; subst e; exact ⟨_, rfl, h⟩
  | _, _, i + 1, d, .cons _ t, e => by
    obtain ⟨v, h1, h2⟩ := dfAll_get (i := i) (d := d) t (by simpa using e)
    exact ⟨v, by simpa using h1, h2⟩
theorem dfAll_app {K : PySem.W.Frag} {F : Hp} : ∀ {vs ws : List V} {ds es : List Dt}, DfAll K F vs ds → DfAll K F ws es → DfAll K F (vs ++ ws) (ds ++ es)
  | _, _, _, _, .nil, s => s
  | _, _, _, _, .cons h t, s => .cons h (dfAll_app t s)
theorem dfAll_take {K : PySem.W.Frag} {F : Hp} : ∀ (n : Nat) {vs : List V} {ds : List Dt}, DfAll K F vs ds → DfAll K F (vs.take n) (ds.take n)
  | 0, _, _, _ => .nil
  | _ + 1, _, _, .nil => .nil
  | n + 1, _, _, .cons h t => .cons h (dfAll_take n t)
theorem dfAll_drop {K : PySem.W.Frag} {F : Hp} : ∀ (n : Nat) {vs : List V} {ds : List Dt}, DfAll K F vs ds → DfAll K F (vs.drop n) (ds.drop n)
  | 0, _, _, h => h
  | _ + 1, _, _, .nil => .nil
  | n + 1, _, _, .cons _ t => dfAll_drop n t
theorem dfAll_set {K : PySem.W.Frag} {F : Hp} {v : V} {d : Dt} (h : Df K F v d) : ∀ (n : Nat) {vs : List V} {ds : List Dt}, DfAll K F vs ds → DfAll K F (vs.set n v) (ds.set n d)
  | _, _, _, .nil => .nil
  | 0, _, _, .cons _ t => .cons h t
  | n + 1, _, _, .cons g t => .cons g (dfAll_set h n t)
theorem dfAll_rep {K : PySem.W.Frag} {F : Hp} {vs : List V} {ds : List Dt} (h : DfAll K F vs ds) : ∀ n : Nat, DfAll K F (List.replicate n vs).flatten (List.replicate n ds).flatten
  | 0 => .nil
  | n + 1 => by
    rw [List.replicate_succ, List.replicate_succ, List.flatten_cons, List.flatten_cons]
    exact dfAll_app h (dfAll_rep h n)
theorem dfAll_ints {K : PySem.W.Frag} {F : Hp} : ∀ (ns : List Int) (vs : List V), DfAll K F vs (ns.map PyData.int) → vs = ns.map V.int
  | [], _, h => by cases h; rfl
  | n :: ns, _, h => by
    cases h with
    | cons h1 h2 =>
      cases h1
      rw [dfAll_ints ns _ h2]
      rfl
theorem ints_dpAll {K : PySem.W.Frag} {F : Hp} : ∀ (ns : List Int), DfAll K F (ns.map V.int) (ns.map PyData.int)
  | [] => .nil
  | n :: ns => .cons (.int n) (ints_dpAll ns)
theorem dfAll_bools {K : PySem.W.Frag} {F : Hp} : ∀ (ns : List Bool) (vs : List V), DfAll K F vs (ns.map PyData.bool) → vs = ns.map V.bl
  | [], _, h => by cases h; rfl
  | n :: ns, _, h => by
    cases h with
    | cons h1 h2 =>
      cases h1
      rw [dfAll_bools ns _ h2]
      rfl
def KvRel (K : PySem.W.Frag) (F : Hp) {κ : Type} (kvs : List (κ × Dt)) (ks : List (κ × V)) : Prop := Paired (fun (p : κ × Dt) (q : κ × V) => p.1 = q.1 ∧ Df K F q.2 p.2) kvs ks
def ObRel (K : PySem.W.Frag) (F : Hp) : Ob → HO → Prop
  | .lst ds, o => ∃ vs, o = .lst vs ∧ DfAll K F vs ds
  | .dk kvs, o => ∃ ks, o = .dK ks ∧ KvRel K F kvs ks
  | .dt kvs, o => ∃ ks, o = .dT ks ∧ KvRel K F kvs ks
theorem ObRel.mono {K : PySem.W.Frag} {F F' : Hp} {o : Ob} {h : HO} (S : Same F F') (r : ObRel K F o h) : ObRel K F' o h := by
  cases o with
  | lst ds => obtain ⟨vs, e, q⟩ := r; exact ⟨vs, e, dfAll_mono S q⟩
  | dk kvs => obtain ⟨ks, e, q⟩ := r; exact ⟨ks, e, Paired.mapP q fun a b z => ⟨z.1, df_mono S z.2⟩⟩
  | dt kvs => obtain ⟨ks, e, q⟩ := r; exact ⟨ks, e, Paired.mapP q fun a b z => ⟨z.1, df_mono S z.2⟩⟩

def obD : Ob → Dt
  | .lst ds => .list ds
  | .dk kvs => .dict ((.bool false, .none) :: dkD kvs)
  | .dt kvs => .dict ((.bool true, .none) :: dtD kvs)
theorem kvRel_all {K : PySem.W.Frag} {F : Hp} {κ : Type} {kvs : List (κ × Dt)} {ks : List (κ × V)} (h : KvRel K F kvs ks) : ks.map (·.1) = kvs.map (·.1) ∧ DfAll K F (ks.map (·.2)) (kvs.map (·.2)) := by
  induction h with
  | nil => exact ⟨rfl, .nil⟩
  | cons z _ ih => exact ⟨by rw [List.map_cons, List.map_cons, ih.1, z.1], .cons z.2 ih.2⟩
theorem ObRel.df {K : PySem.W.Frag} {F F' : Hp} {o : Ob} {ho : HO} {a : Addr} (r : ObRel K F o ho) (S : Same F F') (h : F' a = some ho) : Df K F' (.ref a) (obD o) := by
  cases o with
  | lst ds => obtain ⟨vs, e, q⟩ := r; subst e; exact .lst h (dfAll_mono S q)
  | dk kvs => obtain ⟨ks, e, q⟩ := r; subst e; obtain ⟨q1, q2⟩ := kvRel_all q; exact .dkk h q1 (dfAll_mono S q2)
  | dt kvs => obtain ⟨ks, e, q⟩ := r; subst e; obtain ⟨q1, q2⟩ := kvRel_all q; exact .dkt h q1 (dfAll_mono S q2)

structure Bs where
  H0 : Hp
  F0 : Hp
  W : List (Nat × Addr)

def Own (ρ : Rh) (i : Nat) (o : Ob) : Prop := ρ[i]? = some (some (.own o)) ∨ ρ[i]? = some (some (.arg o))

/-- what may be known to stand for good though it was there before: a tuple, an exception's dict -/
def FzO (o : HO) : Prop := (∃ xs, o = .tup xs) ∨ ∃ fs, o = .xd fs
structure Rel (K : PySem.W.Frag) (B : Bs) (F H : Hp) (ρ : Rh) (σ : St) (T : List (Ob × Addr)) : Prop where
  len : σ.length = ρ.length
  val : ∀ (i : Nat) (d : Dt), ρ[i]? = some (some (.val d)) → ∃ v, σ[i]? = some (some v) ∧ Df K F v d
  own : ∀ (i : Nat) (o : Ob), Own ρ i o → ∃ a, σ[i]? = some (some (.ref a)) ∧ (∃ ho, H a = some ho ∧ ObRel K F o ho) ∧ F a = none ∧ (B.H0 a = none ∨ (i, a) ∈ B.W)
  dis : ∀ (i j : Nat) (o p : Ob) (a : Addr), Own ρ i o → Own ρ j p → σ[i]? = some (some (.ref a)) → σ[j]? = some (some (.ref a)) → i = j
  tmp : ∀ x ∈ T, (∃ ho, H x.2 = some ho ∧ ObRel K F x.1 ho) ∧ F x.2 = none ∧ B.H0 x.2 = none ∧ ∀ (i : Nat) (o : Ob), Own ρ i o → σ[i]? ≠ some (some (.ref x.2))
  tnd : (T.map (·.2)).Nodup
  args : ∀ (i : Nat) (a : Addr), (i, a) ∈ B.W ↔ ∃ o : Ob, ρ[i]? = some (some (.arg o)) ∧ σ[i]? = some (some (.ref a))
  fro : Same F H
  f0 : Same B.F0 F
  frm : ∀ (b : Addr) (o : HO), B.H0 b = some o → (∀ i : Nat, (i, b) ∉ B.W) → H b = some o
  dom : ∀ (b : Addr) (o : HO), B.H0 b = some o → ∃ o', H b = some o'
  fnw : ∀ (b : Addr) (o : HO), F b = some o → (∃ o', B.F0 b = some o') ∨ B.H0 b = none ∨ FzO o

theorem same_upd {F : Hp} {p : Addr} {o : HO} (h : F p = none) : Same F (upd F p o) := fun b x e => by
  rw [upd_ne (ne_of_none e h)]
  exact e

/-- the heap has grown by one thing that stands for good, or it is as it was -/
inductive Grown : Hp → Hp → Hp → Hp → Prop where
  | same {F H : Hp} : Grown F H F H
  | new {F H : Hp} {p : Addr} {o : HO} (h : H p = none) : Grown F H (upd F p o) (upd H p o)
  | tups {F H F' : Hp} (S : Same F F') (h : ∀ b o, F' b = some o → F b = some o ∨ (H b = some o ∧ ∃ xs, o = .tup xs)) : Grown F H F' H
  | trans {F H F1 H1 F2 H2 : Hp} (g : Grown F H F1 H1) (g' : Grown F1 H1 F2 H2) : Grown F H F2 H2

section
variable {K : PySem.W.Frag} {B : Bs} {F H : Hp} {ρ : Rh} {σ : St} {T : List (Ob × Addr)}

theorem Rel.dom' (R : Rel K B F H ρ σ T) {p : Addr} (hp : H p = none) : B.H0 p = none := by
  cases e : B.H0 p with
  | none => rfl
  | some o =>
    obtain ⟨o', e'⟩ := R.dom p o e
    rw [hp] at e'
    cases e'
theorem Rel.fp (R : Rel K B F H ρ σ T) {p : Addr} (hp : H p = none) : F p = none := R.fro.free hp

theorem Rel.new (R : Rel K B F H ρ σ T) {p : Addr} {ho : HO} (hp : H p = none) : Rel K B (upd F p ho) (upd H p ho) ρ σ T := by
  have hf : F p = none := R.fp hp
  have S : Same F (upd F p ho) := same_upd hf
  refine ⟨R.len, fun i d e => ?_, fun i o e => ?_, R.dis, fun x hx => ?_, R.tnd, R.args, fun b x e => ?_, fun b x e => S _ _ (R.f0 _ _ e), fun b x e hw => ?_, fun b x e => ?_, fun b x e => ?_⟩
  · obtain ⟨v, h1, h2⟩ := R.val i d e
    exact ⟨v, h1, df_mono S h2⟩
  · obtain ⟨a, h1, ⟨w, h2, h3⟩, h4, h5⟩ := R.own i o e
    have na : a ≠ p := ne_of_none h2 hp
    exact ⟨a, h1, ⟨w, by rw [upd_ne na]; exact h2, h3.mono S⟩, by rw [upd_ne na]; exact h4, h5⟩
  · obtain ⟨⟨w, h2, h3⟩, h4, h5, h6⟩ := R.tmp x hx
    have na : x.2 ≠ p := ne_of_none h2 hp
    exact ⟨⟨w, by rw [upd_ne na]; exact h2, h3.mono S⟩, by rw [upd_ne na]; exact h4, h5, h6⟩
  · by_cases z : b = p
    · subst z
      rw [upd_same] at e ⊢
      exact e
    · rw [upd_ne z] at e ⊢
      exact R.fro _ _ e
  · have h1 := R.frm b x e hw
    rw [upd_ne (ne_of_none h1 hp)]
    exact h1
  · obtain ⟨o', h1⟩ := R.dom b x e
    exact ⟨o', by rw [upd_ne (ne_of_none h1 hp)]; exact h1⟩
  · by_cases z : b = p
    · subst z
      exact .inr (.inl (R.dom' hp))
    · rw [upd_ne z] at e
      exact R.fnw b x e

theorem ObRel.ntup {o : Ob} {ho : HO} (r : ObRel K F o ho) (xs : List V) : ho ≠ .tup xs := by
  cases o with
  | lst ds => obtain ⟨vs, e, q⟩ := r; subst e; intro z; cases z
  | dk kvs => obtain ⟨ks, e, q⟩ := r; subst e; intro z; cases z
  | dt kvs => obtain ⟨ks, e, q⟩ := r; subst e; intro z; cases z
theorem ObRel.nxd {o : Ob} {ho : HO} (r : ObRel K F o ho) (xs : List (Str × V)) : ho ≠ .xd xs := by
  cases o with
  | lst ds => obtain ⟨vs, e, q⟩ := r; subst e; intro z; cases z
  | dk kvs => obtain ⟨ks, e, q⟩ := r; subst e; intro z; cases z
  | dt kvs => obtain ⟨ks, e, q⟩ := r; subst e; intro z; cases z
theorem ObRel.nfz {o : Ob} {ho : HO} (r : ObRel K F o ho) : ¬ FzO ho := fun z => by
  rcases z with ⟨xs, z⟩ | ⟨xs, z⟩
  · exact r.ntup xs z
  · exact r.nxd xs z
/-- tuples that stand in the heap stand for good -/
theorem Rel.tups {F' : Hp} (R : Rel K B F H ρ σ T) (S : Same F F') (h : ∀ b o, F' b = some o → F b = some o ∨ (H b = some o ∧ ∃ xs, o = .tup xs)) : Rel K B F' H ρ σ T := by
  have nf : ∀ {a : Addr} {o : Ob} {ho : HO}, H a = some ho → ObRel K F o ho → F a = none → F' a = none := fun {a o ho} e r n => by
    cases z : F' a with
    | none => rfl
    | some q =>
      rcases h a q z with y | ⟨y, xs, ex⟩
      · rw [n] at y; cases y
      · rw [e] at y; cases y; exact (r.ntup xs ex).elim
  refine ⟨R.len, fun i d e => ?_, fun i o e => ?_, R.dis, fun x hx => ?_, R.tnd, R.args, fun b x e => ?_, fun b x e => S _ _ (R.f0 _ _ e), R.frm, R.dom, fun b x e => ?_⟩
  · obtain ⟨v, h1, h2⟩ := R.val i d e
    exact ⟨v, h1, df_mono S h2⟩
  · obtain ⟨a, h1, ⟨w, h2, h3⟩, h4, h5⟩ := R.own i o e
    exact ⟨a, h1, ⟨w, h2, h3.mono S⟩, nf h2 h3 h4, h5⟩
  · obtain ⟨⟨w, h2, h3⟩, h4, h5, h6⟩ := R.tmp x hx
    exact ⟨⟨w, h2, h3.mono S⟩, nf h2 h3 h4, h5, h6⟩
  · rcases h b x e with y | ⟨y, _⟩
    · exact R.fro _ _ y
    · exact y
  · rcases h b x e with y | ⟨y, z⟩
    · exact R.fnw b x y
    · exact .inr (.inr (.inl z))
theorem Rel.grown {F' H' : Hp} (R : Rel K B F H ρ σ T) (G : Grown F H F' H') : Rel K B F' H' ρ σ T := by
  induction G with
  | same => exact R
  | new h => exact R.new h
  | tups S h => exact R.tups S h
  | trans g g' ih ih' => exact ih' (ih R)
theorem Grown.sames {F' H' : Hp} (S : Same F H) (G : Grown F H F' H') : Same F F' ∧ Same F' H' := by
  induction G with
  | same => exact ⟨Same.refl _, S⟩
  | @new F H p o h =>
    refine ⟨same_upd (S.free h), fun b x e => ?_⟩
    by_cases z : b = p
    · subst z
      rw [upd_same] at e ⊢
      exact e
    · rw [upd_ne z] at e ⊢
      exact S _ _ e
  | tups S' h =>
    refine ⟨S', fun b x e => ?_⟩
    rcases h b x e with y | ⟨y, _⟩
    · exact S _ _ y
    · exact y
  | trans g g' ih ih' =>
    obtain ⟨a, b⟩ := ih S
    obtain ⟨c, d⟩ := ih' b
    exact ⟨a.trans c, d⟩
theorem Grown.same' {F' H' : Hp} (S : Same F H) (G : Grown F H F' H') : Same F F' := (G.sames S).1

/-- a new owned thing, not yet given a name -/
theorem Rel.pend (R : Rel K B F H ρ σ T) {p : Addr} {o : Ob} {ho : HO} (hp : H p = none) (r : ObRel K F o ho) : Rel K B F (upd H p ho) ρ σ ((o, p) :: T) := by
  have hf : F p = none := R.fp hp
  refine ⟨R.len, R.val, fun i o e => ?_, R.dis, fun x hx => ?_, ?_, R.args, fun b x e => ?_, R.f0, fun b x e hw => ?_, fun b x e => ?_, R.fnw⟩
  · obtain ⟨a, h1, ⟨w, h2, h3⟩, h4, h5⟩ := R.own i o e
    exact ⟨a, h1, ⟨w, by rw [upd_ne (ne_of_none h2 hp)]; exact h2, h3⟩, h4, h5⟩
  · rcases List.mem_cons.mp hx with z | hx
    · subst z
      refine ⟨⟨ho, upd_same, r⟩, hf, R.dom' hp, fun i o e q => ?_⟩
      obtain ⟨a, h1, ⟨w, h2, h3⟩, h4, h5⟩ := R.own i o e
      rw [q] at h1
      cases h1
      rw [hp] at h2
      cases h2
    · obtain ⟨⟨w, h2, h3⟩, h4, h5, h6⟩ := R.tmp x hx
      exact ⟨⟨w, by rw [upd_ne (ne_of_none h2 hp)]; exact h2, h3⟩, h4, h5, h6⟩
  · rw [List.map_cons, List.nodup_cons]
    refine ⟨fun hm => ?_, R.tnd⟩
    obtain ⟨x, hx, e⟩ := List.mem_map.mp hm
    obtain ⟨⟨w, h2, h3⟩, _⟩ := R.tmp x hx
    have e' : x.2 = p := e
    rw [e', hp] at h2
    cases h2
  · have h1 := R.fro _ _ e
    rw [upd_ne (ne_of_none h1 hp)]
    exact h1
  · have h1 := R.frm b x e hw
    rw [upd_ne (ne_of_none h1 hp)]
    exact h1
  · obtain ⟨o', h1⟩ := R.dom b x e
    exact ⟨o', by rw [upd_ne (ne_of_none h1 hp)]; exact h1⟩

/-- the topmost unnamed list stands for good from now on -/
theorem Rel.settle {p : Addr} {ds : Ob} (R : Rel K B F H ρ σ ((ds, p) :: T)) : ∃ F', Same F F' ∧ Rel K B F' H ρ σ T ∧ Df K F' (.ref p) (obD ds) := by
  obtain ⟨⟨w, h2, h3⟩, h4, h5, h6⟩ := R.tmp (ds, p) List.mem_cons_self
  have h2' : H p = some w := h2
  have h4' : F p = none := h4
  have S : Same F (upd F p w) := same_upd h4'
  have tn := R.tnd
  rw [List.map_cons, List.nodup_cons] at tn
  refine ⟨upd F p w, S, ⟨R.len, fun i d e => ?_, fun i o e => ?_, R.dis, fun x hx => ?_, tn.2, R.args, fun b x e => ?_, fun b x e => S _ _ (R.f0 _ _ e), R.frm, R.dom, fun b x e => ?_⟩, h3.df S upd_same⟩
  · obtain ⟨v, h1, h2⟩ := R.val i d e
    exact ⟨v, h1, df_mono S h2⟩
  · obtain ⟨a, q1, ⟨w, q2, q3⟩, q4, q5⟩ := R.own i o e
    have na : a ≠ p := fun z => h6 i o e (by rw [q1, z])
    exact ⟨a, q1, ⟨w, q2, q3.mono S⟩, by rw [upd_ne na]; exact q4, q5⟩
  · obtain ⟨⟨w, q2, q3⟩, q4, q5, q6⟩ := R.tmp x (List.mem_cons_of_mem _ hx)
    have na : x.2 ≠ p := fun z => tn.1 (List.mem_map.mpr ⟨x, hx, z⟩)
    exact ⟨⟨w, q2, q3.mono S⟩, by rw [upd_ne na]; exact q4, q5, q6⟩
  · by_cases z : b = p
    · subst z
      rw [upd_same] at e
      cases e
      exact h2'
    · rw [upd_ne z] at e
      exact R.fro _ _ e
  · by_cases z : b = p
    · subst z
      exact .inr (.inl h5)
    · rw [upd_ne z] at e
      exact R.fnw b x e

theorem own_set_ne {i j : Nat} {x : Option Sv} {o : Ob} (h : i ≠ j) (e : Own (ρ.set i x) j o) : Own ρ j o := by
  rcases e with e | e
  · rw [List.getElem?_set_ne h] at e; exact .inl e
  · rw [List.getElem?_set_ne h] at e; exact .inr e
theorem own_set_self {i : Nat} {x : Option Sv} {o : Ob} (e : Own (ρ.set i x) i o) : x = some (.own o) ∨ x = some (.arg o) := by
  rcases e with e | e
  · by_cases h : i < ρ.length
    · rw [List.getElem?_set_self h] at e; cases e; exact .inl rfl
    · rw [List.getElem?_eq_none (by rw [List.length_set]; omega)] at e; cases e
  · by_cases h : i < ρ.length
    · rw [List.getElem?_set_self h] at e; cases e; exact .inr rfl
    · rw [List.getElem?_eq_none (by rw [List.length_set]; omega)] at e; cases e

/-- a slot is given data, or forgotten -/
theorem Rel.put (R : Rel K B F H ρ σ T) {i : Nat} {x : Option Sv} {y : Option V} (hna : ∀ o : Ob, ρ[i]? ≠ some (some (.arg o))) (hx : x = none ∨ ∃ d v, x = some (.val d) ∧ y = some v ∧ Df K F v d) : Rel K B F H (ρ.set i x) (σ.set i y) T := by
  have hxn : ∀ o, ¬ (x = some (.own o) ∨ x = some (.arg o)) := fun o z => by
    rcases hx with e | ⟨d, v, e, _⟩ <;> (rw [e] at z; rcases z with z | z <;> cases z)
  refine ⟨by rw [List.length_set, List.length_set]; exact R.len, fun j d e => ?_, fun j o e => ?_, fun j k o p a e1 e2 q1 q2 => ?_, fun z hz => ?_, R.tnd, fun j a => ?_, R.fro, R.f0, R.frm, R.dom, R.fnw⟩
  · by_cases hj : i = j
    · subst hj
      by_cases hl : i < ρ.length
      · rw [List.getElem?_set_self hl] at e
        rcases hx with z | ⟨d', v, z, zy, zd⟩
        · rw [z] at e; cases e
        · rw [z] at e; cases e
          exact ⟨v, by rw [List.getElem?_set_self (by rw [R.len]; exact hl), zy], zd⟩
      · rw [List.getElem?_eq_none (by rw [List.length_set]; omega)] at e; cases e
    · rw [List.getElem?_set_ne hj] at e
      obtain ⟨v, h1, h2⟩ := R.val j d e
      exact ⟨v, by rw [List.getElem?_set_ne hj]; exact h1, h2⟩
  · by_cases hj : i = j
    · subst hj
      exact (hxn o (own_set_self e)).elim
    · obtain ⟨a, h1, h2⟩ := R.own j o (own_set_ne hj e)
      exact ⟨a, by rw [List.getElem?_set_ne hj]; exact h1, h2⟩
  · by_cases hj : i = j
    · subst hj
      exact (hxn o (own_set_self e1)).elim
    · by_cases hk : i = k
      · subst hk
        exact (hxn p (own_set_self e2)).elim
      · rw [List.getElem?_set_ne hj] at q1
        rw [List.getElem?_set_ne hk] at q2
        exact R.dis j k o p a (own_set_ne hj e1) (own_set_ne hk e2) q1 q2
  · obtain ⟨h1, h2, h3, h4⟩ := R.tmp z hz
    refine ⟨h1, h2, h3, fun j o e => ?_⟩
    by_cases hj : i = j
    · subst hj
      exact (hxn o (own_set_self e)).elim
    · rw [List.getElem?_set_ne hj]
      exact h4 j o (own_set_ne hj e)
  · rw [R.args j a]
    by_cases hj : i = j
    · subst hj
      constructor
      · rintro ⟨o, h1, _⟩
        exact (hna o h1).elim
      · rintro ⟨o, h1, _⟩
        exact (hxn o (own_set_self (.inr h1))).elim
    · rw [List.getElem?_set_ne hj, List.getElem?_set_ne hj]

/-- a slot is given the topmost unnamed thing -/
theorem Rel.name {p : Addr} {o : Ob} (R : Rel K B F H ρ σ ((o, p) :: T)) {i : Nat} (hna : ∀ o : Ob, ρ[i]? ≠ some (some (.arg o))) : Rel K B F H (ρ.set i (some (.own o))) (σ.set i (some (.ref p))) T := by
  obtain ⟨h2, h4, h5, h6⟩ := R.tmp (o, p) List.mem_cons_self
  have tn := R.tnd
  rw [List.map_cons, List.nodup_cons] at tn
  refine ⟨by rw [List.length_set, List.length_set]; exact R.len, fun j d e => ?_, fun j q e => ?_, fun j k q r a e1 e2 q1 q2 => ?_, fun z hz => ?_, tn.2, fun j a => ?_, R.fro, R.f0, R.frm, R.dom, R.fnw⟩
  · by_cases hj : i = j
    · subst hj
      by_cases hl : i < ρ.length
      · rw [List.getElem?_set_self hl] at e; cases e
      · rw [List.getElem?_eq_none (by rw [List.length_set]; omega)] at e; cases e
    · rw [List.getElem?_set_ne hj] at e
      obtain ⟨v, h1, h2⟩ := R.val j d e
      exact ⟨v, by rw [List.getElem?_set_ne hj]; exact h1, h2⟩
  · by_cases hj : i = j
    · subst hj
      have hl : i < ρ.length := by
        rcases Nat.lt_or_ge i ρ.length with h | h
        · exact h
        · rcases e with e | e <;> (rw [List.getElem?_eq_none (by rw [List.length_set]; exact h)] at e; cases e)
      have eq : q = o := by
        rcases own_set_self e with z | z
        · cases z; rfl
        · cases z
      subst eq
      exact ⟨p, by rw [List.getElem?_set_self (by rw [R.len]; exact hl)], h2, h4, .inl h5⟩
    · obtain ⟨a, h1, h2⟩ := R.own j q (own_set_ne hj e)
      exact ⟨a, by rw [List.getElem?_set_ne hj]; exact h1, h2⟩
  · have atp : ∀ {m : Nat} {x : V}, (σ.set m (some (V.ref p)))[m]? = some (some x) → x = .ref p := fun {m x} z => by
      by_cases hl : m < σ.length
      · rw [List.getElem?_set_self hl] at z; cases z; rfl
      · rw [List.getElem?_eq_none (by rw [List.length_set]; omega)] at z; cases z
    by_cases hj : i = j
    · by_cases hk : i = k
      · exact hj.symm.trans hk
      · subst hj
        have z := atp q1
        cases z
        rw [List.getElem?_set_ne hk] at q2
        exact (h6 k r (own_set_ne hk e2) q2).elim
    · by_cases hk : i = k
      · subst hk
        have z := atp q2
        cases z
        rw [List.getElem?_set_ne hj] at q1
        exact (h6 j q (own_set_ne hj e1) q1).elim
      · rw [List.getElem?_set_ne hj] at q1
        rw [List.getElem?_set_ne hk] at q2
        exact R.dis j k q r a (own_set_ne hj e1) (own_set_ne hk e2) q1 q2
  · obtain ⟨g1, g2, g3, g4⟩ := R.tmp z (List.mem_cons_of_mem _ hz)
    refine ⟨g1, g2, g3, fun j q e => ?_⟩
    by_cases hj : i = j
    · subst hj
      intro w
      by_cases hl : i < σ.length
      · rw [List.getElem?_set_self hl] at w
        have w' : p = z.2 := by cases w; rfl
        exact tn.1 (List.mem_map.mpr ⟨z, hz, w'.symm⟩)
      · rw [List.getElem?_eq_none (by rw [List.length_set]; omega)] at w; cases w
    · rw [List.getElem?_set_ne hj]
      exact g4 j q (own_set_ne hj e)
  · rw [R.args j a]
    by_cases hj : i = j
    · subst hj
      constructor
      · rintro ⟨q, h1, _⟩
        exact (hna q h1).elim
      · rintro ⟨q, h1, _⟩
        rcases own_set_self (.inr h1) with z | z <;> cases z
        rcases Nat.lt_or_ge i ρ.length with h | h
        · rw [List.getElem?_set_self h] at h1; cases h1
        · rw [List.getElem?_eq_none (by rw [List.length_set]; exact h)] at h1; cases h1
    · rw [List.getElem?_set_ne hj, List.getElem?_set_ne hj]

/-- an owned list of a slot's own stands for good from now on -/
theorem Rel.fix {i : Nat} {ds : Ob} (R : Rel K B F H ρ σ T) (hi : ρ[i]? = some (some (.own ds))) : ∃ F' a, Same F F' ∧ σ[i]? = some (some (.ref a)) ∧ Rel K B F' H (ρ.set i (some (.val (obD ds)))) σ T ∧ Df K F' (.ref a) (obD ds) := by
  obtain ⟨a, h1, ⟨w, h2, h3⟩, h4, h5⟩ := R.own i _ (.inl hi)
  have hW : (i, a) ∉ B.W := fun z => by
    obtain ⟨o, q, _⟩ := (R.args i a).mp z
    rw [hi] at q; cases q
  have h5' : B.H0 a = none := h5.resolve_right hW
  have S : Same F (upd F a w) := same_upd h4
  have dd : Df K (upd F a w) (.ref a) (obD ds) := h3.df S upd_same
  have hl : i < ρ.length := (List.getElem?_eq_some_iff.mp hi).1
  have back : ∀ {j : Nat} {o : Ob}, Own (ρ.set i (some (.val (obD ds)))) j o → i ≠ j ∧ Own ρ j o := fun {j o} e => by
    by_cases hj : i = j
    · subst hj
      rcases own_set_self e with z | z <;> cases z
    · exact ⟨hj, own_set_ne hj e⟩
  refine ⟨upd F a w, a, S, h1, ⟨by rw [List.length_set]; exact R.len, fun j d e => ?_, fun j o e => ?_, fun j k o p b e1 e2 => R.dis j k o p b (back e1).2 (back e2).2, fun x hx => ?_, R.tnd, fun j b => ?_, fun b x e => ?_, fun b x e => S _ _ (R.f0 _ _ e), R.frm, R.dom, fun b x e => ?_⟩, dd⟩
  · by_cases hj : i = j
    · subst hj
      rw [List.getElem?_set_self hl] at e
      cases e
      exact ⟨_, h1, dd⟩
    · rw [List.getElem?_set_ne hj] at e
      obtain ⟨v, q1, q2⟩ := R.val j d e
      exact ⟨v, q1, df_mono S q2⟩
  · obtain ⟨hj, e'⟩ := back e
    obtain ⟨b, q1, ⟨w, q2, q3⟩, q4, q5⟩ := R.own j o e'
    have nb : b ≠ a := fun z => hj (R.dis i j _ _ a (.inl hi) e' h1 (by rw [q1, z]))
    exact ⟨b, q1, ⟨w, q2, q3.mono S⟩, by rw [upd_ne nb]; exact q4, q5⟩
  · obtain ⟨⟨w, q2, q3⟩, q4, q5, q6⟩ := R.tmp x hx
    have nb : x.2 ≠ a := fun z => q6 i _ (.inl hi) (by rw [h1, z])
    exact ⟨⟨w, q2, q3.mono S⟩, by rw [upd_ne nb]; exact q4, q5, fun j o e => q6 j o (back e).2⟩
  · rw [R.args j b]
    by_cases hj : i = j
    · subst hj
      rw [List.getElem?_set_self hl, hi]
      constructor
      · rintro ⟨o, z, _⟩; cases z
      · rintro ⟨o, z, _⟩; cases z
    · rw [List.getElem?_set_ne hj]
  · by_cases z : b = a
    · subst z
      rw [upd_same] at e
      cases e
      exact h2
    · rw [upd_ne z] at e
      exact R.fro _ _ e
  · by_cases z : b = a
    · subst z
      exact .inr (.inl h5')
    · rw [upd_ne z] at e
      exact R.fnw b x e

/-- an owned thing of a slot's is changed -/
theorem Rel.write {i : Nat} {o o' : Ob} {a : Addr} {ho : HO} {x : Sv} (R : Rel K B F H ρ σ T) (hi : Own ρ i o) (ha : σ[i]? = some (some (.ref a))) (r : ObRel K F o' ho)
    (hx : (ρ[i]? = some (some (.own o)) ∧ x = .own o') ∨ (ρ[i]? = some (some (.arg o)) ∧ x = .arg o')) : Rel K B F (upd H a ho) (ρ.set i (some x)) σ T := by
  obtain ⟨a', h1, ⟨w, h2, h3⟩, h4, h5⟩ := R.own i o hi
  rw [ha] at h1
  cases h1
  have hl : i < ρ.length := by
    rcases hx with ⟨z, _⟩ | ⟨z, _⟩ <;> exact (List.getElem?_eq_some_iff.mp z).1
  have back : ∀ {j : Nat} {q : Ob}, Own (ρ.set i (some x)) j q → ∃ q', Own ρ j q' ∧ (i ≠ j → q' = q) ∧ (i = j → q = o') := fun {j q} e => by
    by_cases hj : i = j
    · subst hj
      refine ⟨o, hi, fun z => (z rfl).elim, fun _ => ?_⟩
      rcases hx with ⟨_, z⟩ | ⟨_, z⟩ <;> (subst z; rcases own_set_self e with y | y <;> cases y; rfl)
    · exact ⟨q, own_set_ne hj e, fun _ => rfl, fun z => (hj z).elim⟩
  refine ⟨by rw [List.length_set]; exact R.len, fun j d e => ?_, fun j q e => ?_, fun j k q p b e1 e2 => ?_, fun y hy => ?_, R.tnd, fun j b => ?_, fun b y e => ?_, R.f0, fun b y e hw => ?_, fun b y e => ?_, R.fnw⟩
  · by_cases hj : i = j
    · subst hj
      rw [List.getElem?_set_self hl] at e
      rcases hx with ⟨_, z⟩ | ⟨_, z⟩ <;> (subst z; cases e)
    · rw [List.getElem?_set_ne hj] at e
      exact R.val j d e
  · obtain ⟨q', e', f1, f2⟩ := back e
    obtain ⟨b, g1, ⟨w', g2, g3⟩, g4, g5⟩ := R.own j q' e'
    by_cases hj : i = j
    · subst hj
      rw [ha] at g1
      cases g1
      rw [f2 rfl]
      exact ⟨a, ha, ⟨ho, upd_same, r⟩, g4, g5⟩
    · have eq := f1 hj
      subst eq
      have nb : b ≠ a := fun z => hj (R.dis i j _ _ a hi e' ha (by rw [g1, z]))
      exact ⟨b, g1, ⟨w', by rw [upd_ne nb]; exact g2, g3⟩, g4, g5⟩
  · obtain ⟨q1, e1', _⟩ := back e1
    obtain ⟨q2, e2', _⟩ := back e2
    exact R.dis j k q1 q2 b e1' e2'
  · obtain ⟨⟨w', g2, g3⟩, g4, g5, g6⟩ := R.tmp y hy
    have nb : y.2 ≠ a := fun z => g6 i o hi (by rw [ha, z])
    refine ⟨⟨w', by rw [upd_ne nb]; exact g2, g3⟩, g4, g5, fun j q e => ?_⟩
    obtain ⟨q', e', _⟩ := back e
    exact g6 j q' e'
  · rw [R.args j b]
    by_cases hj : i = j
    · subst hj
      rw [List.getElem?_set_self hl]
      rcases hx with ⟨z, zx⟩ | ⟨z, zx⟩
      · rw [z, zx]
        constructor <;> (rintro ⟨q, y, _⟩; cases y)
      · rw [z, zx]
        constructor
        · rintro ⟨q, _, y⟩; exact ⟨_, rfl, y⟩
        · rintro ⟨q, _, y⟩; exact ⟨_, rfl, y⟩
    · rw [List.getElem?_set_ne hj]
  · have nb : b ≠ a := fun z => by rw [z, h4] at e; cases e
    rw [upd_ne nb]
    exact R.fro _ _ e
  · have nb : b ≠ a := fun z => by
      subst z
      rcases h5 with h5 | h5
      · rw [h5] at e; cases e
      · exact hw i h5
    rw [upd_ne nb]
    exact R.frm b y e hw
  · by_cases z : b = a
    · exact ⟨ho, by rw [z, upd_same]⟩
    · obtain ⟨o', q⟩ := R.dom b y e
      exact ⟨o', by rw [upd_ne z]; exact q⟩

/-- the topmost unnamed thing is changed -/
theorem Rel.tput {o o' : Ob} {p : Addr} {ho : HO} (R : Rel K B F H ρ σ ((o, p) :: T)) (r : ObRel K F o' ho) : Rel K B F (upd H p ho) ρ σ ((o', p) :: T) := by
  obtain ⟨⟨w, h2, h3⟩, h4, h5, h6⟩ := R.tmp (o, p) List.mem_cons_self
  have tn := R.tnd
  rw [List.map_cons, List.nodup_cons] at tn
  have h4' : F p = none := h4
  refine ⟨R.len, R.val, fun i q e => ?_, R.dis, fun x hx => ?_, R.tnd, R.args, fun b x e => ?_, R.f0, fun b x e hw => ?_, fun b x e => ?_, R.fnw⟩
  · obtain ⟨a, g1, ⟨w, g2, g3⟩, g4, g5⟩ := R.own i q e
    have na : a ≠ p := fun z => h6 i q e (by rw [g1, z])
    exact ⟨a, g1, ⟨w, by rw [upd_ne na]; exact g2, g3⟩, g4, g5⟩
  · rcases List.mem_cons.mp hx with z | hx
    · subst z
      exact ⟨⟨ho, upd_same, r⟩, h4, h5, h6⟩
    · obtain ⟨⟨w, g2, g3⟩, g4, g5, g6⟩ := R.tmp x (List.mem_cons_of_mem _ hx)
      have na : x.2 ≠ p := fun z => tn.1 (List.mem_map.mpr ⟨x, hx, z⟩)
      exact ⟨⟨w, by rw [upd_ne na]; exact g2, g3⟩, g4, g5, g6⟩
  · have nb : b ≠ p := fun z => by rw [z, h4'] at e; cases e
    rw [upd_ne nb]
    exact R.fro _ _ e
  · have nb : b ≠ p := fun z => by
      have h5' : B.H0 p = none := h5
      rw [z, h5'] at e; cases e
    rw [upd_ne nb]
    exact R.frm b x e hw
  · by_cases z : b = p
    · exact ⟨ho, by rw [z, upd_same]⟩
    · obtain ⟨o', q⟩ := R.dom b x e
      exact ⟨o', by rw [upd_ne z]; exact q⟩
/-- an unnamed thing is dropped -/
theorem Rel.drop {x : Ob × Addr} (R : Rel K B F H ρ σ (x :: T)) : Rel K B F H ρ σ T := by
  have tn := R.tnd
  rw [List.map_cons, List.nodup_cons] at tn
  exact ⟨R.len, R.val, R.own, R.dis, fun y hy => R.tmp y (List.mem_cons_of_mem _ hy), tn.2, R.args, R.fro, R.f0, R.frm, R.dom, R.fnw⟩
end
end DN

namespace DN
open PySem PySem.Spec L2

abbrev EIx := Exn → Value → Option Addr → Hp → Prop

def Post {α : Type} (K : PySem.W.Frag) (EI : EIx) (Wx : WX) (B : Bs) (σ : St) (T : List (Ob × Addr)) (F : Hp) (k : α → Hp → Hp → Prop) : Out α → Prop
  | .ok a ρ' => ∀ F' H', Rel K B F' H' ρ' σ T → Same F F' → k a F' H'
  | .exn x ρ' => ∀ c dd F' H', Rel K B F' H' ρ' σ T → Same F F' → EI x c dd H' → Wx c dd σ H'
  | .stuck => False
def PostO (K : PySem.W.Frag) (EI : EIx) (Wx : WX) (B : Bs) (σ : St) (T : List (Ob × Addr)) (F : Hp) (Q : VK) : Out Ob → Prop
  | .ok o ρ' => ∀ p F' H', Rel K B F' H' ρ' σ ((o, p) :: T) → Same F F' → Q (.ref p) H'
  | .exn x ρ' => ∀ c dd F' H', Rel K B F' H' ρ' σ T → Same F F' → EI x c dd H' → Wx c dd σ H'
  | .stuck => False
inductive Fl where
  | nx | bk | ct
  | rt (d : Dt)
def PostS (K : PySem.W.Frag) (EI : EIx) (Wx : WX) (B : Bs) (F : Hp) (D : Ends) : Out Fl → Prop
  | .ok .nx ρ' => ∀ σ' F' H', Rel K B F' H' ρ' σ' [] → Same F F' → D.nx σ' H'
  | .ok .bk ρ' => ∀ σ' F' H', Rel K B F' H' ρ' σ' [] → Same F F' → D.bk σ' H'
  | .ok .ct ρ' => ∀ σ' F' H', Rel K B F' H' ρ' σ' [] → Same F F' → D.ct σ' H'
  | .ok (.rt d) ρ' => ∀ v σ' F' H', Rel K B F' H' ρ' σ' [] → Same F F' → Df K F' v d → D.rt v H'
  | .exn x ρ' => ∀ c dd σ' F' H', Rel K B F' H' ρ' σ' [] → Same F F' → EI x c dd H' → Wx c dd σ' H'
  | .stuck => False

def RE (K : PySem.W.Frag) (EI : EIx) (Wx : WX) (t : TE) (f : Mo Dt) : Prop :=
  ∀ B F H ρ σ T Q, Rel K B F H ρ σ T → Post K EI Wx B σ T F (fun d F' H' => ∀ v, Df K F' v d → Q v H') (f ρ) → t σ H Q
def RO (K : PySem.W.Frag) (EI : EIx) (Wx : WX) (t : TE) (f : Mo Ob) : Prop :=
  ∀ B F H ρ σ T Q, Rel K B F H ρ σ T → PostO K EI Wx B σ T F Q (f ρ) → t σ H Q
def RT (K : PySem.W.Frag) (EI : EIx) (Wx : WX) (t : TT) (f : Mo Bool) : Prop :=
  ∀ B F H ρ σ T Q, Rel K B F H ρ σ T → Post K EI Wx B σ T F (fun b F' H' => Q b H') (f ρ) → t σ H Q
def RA (K : PySem.W.Frag) (EI : EIx) (Wx : WX) (t : TA) (f : Mo (List Dt)) : Prop :=
  ∀ B F H ρ σ T Q, Rel K B F H ρ σ T → Post K EI Wx B σ T F (fun ds F' H' => ∀ vs, DfAll K F' vs ds → Q vs H') (f ρ) → t σ H Q
/-- a part of a slice -/
def RP (K : PySem.W.Frag) (EI : EIx) (Wx : WX) (t : TO) (f : Mo (Option Int)) : Prop :=
  ∀ B F H ρ σ T Q, Rel K B F H ρ σ T → Post K EI Wx B σ T F (fun o F' H' => Q o H') (f ρ) → t σ H Q
def RS (K : PySem.W.Frag) (EI : EIx) (Wx : WX) (t : TS) (f : Mo Fl) : Prop :=
  ∀ B F H ρ σ D, Rel K B F H ρ σ [] → PostS K EI Wx B F D (f ρ) → t D σ H
/-- a target: the slots `is` alone are given values -/
def RG (K : PySem.W.Frag) (g : TG) (is : List Nat) (f : Dt → Mo Unit) : Prop :=
  ∀ B F H ρ σ T v d Q, Rel K B F H ρ σ T → Df K F v d →
    (match f d ρ with
      | .ok _ ρ' => ∀ σ' F' H', Rel K B F' H' ρ' σ' T → Same F F' → wipe σ' is = wipe σ is → Q σ' H'
      | _ => False) → g v σ H Q

/-- what an iterator hands out: the items, as long as the heap grows alone -/
def Yields (K : PySem.W.Frag) (J : It) (ds : List Dt) (F1 : Hp) : Prop :=
  ∀ F H, Same F1 F → Same F H →
    (∀ i, i < ds.length → J.go i H) ∧ (∀ i x H' d, ds[i]? = some d → J.yld i H x H' → ∃ F', Grown F H F' H' ∧ Df K F' x d) ∧ J.stop ds.length H
def RI (K : PySem.W.Frag) (EI : EIx) (Wx : WX) (wi : TI) (f : Mo (List Dt)) : Prop :=
  ∀ B F H ρ σ T R, Rel K B F H ρ σ T → Post K EI Wx B σ T F (fun ds F' H' => ∀ J, Yields K J ds F' → R J H') (f ρ) → wi σ H R

section
variable {K : PySem.W.Frag} {EI : EIx} {Wx : WX} {B : Bs} {F F1 H : Hp} {ρ : Rh} {σ : St} {T : List (Ob × Addr)}

theorem Post.le {α : Type} {k : α → Hp → Hp → Prop} {o : Out α} (S : Same F F1) (h : Post K EI Wx B σ T F k o) : Post K EI Wx B σ T F1 k o := by
  cases o with
  | ok a r => exact fun F' H' R S' => h F' H' R (S.trans S')
  | exn x r => exact fun c dd F' H' R S' q => h c dd F' H' R (S.trans S') q
  | stuck => exact h
theorem Post.bnd {α β : Type} {k : β → Hp → Hp → Prop} {k' : α → Hp → Hp → Prop} {m : Mo α} {g : α → Mo β} (h : Post K EI Wx B σ T F k (bnd m g ρ))
    (st : ∀ a ρ1 F1 H1, Rel K B F1 H1 ρ1 σ T → Same F F1 → Post K EI Wx B σ T F1 k (g a ρ1) → k' a F1 H1) : Post K EI Wx B σ T F k' (m ρ) := by
  unfold DN.bnd at h
  cases e : m ρ with
  | ok a r =>
    rw [e] at h
    exact fun F' H' R S => st a r F' H' R S (h.le S)
  | exn x r => rw [e] at h; exact h
  | stuck => rw [e] at h; exact h
theorem PostO.le {Q : VK} {o : Out Ob} (S : Same F F1) (h : PostO K EI Wx B σ T F Q o) : PostO K EI Wx B σ T F1 Q o := by
  cases o with
  | ok a r => exact fun p F' H' R S' => h p F' H' R (S.trans S')
  | exn x r => exact fun c dd F' H' R S' q => h c dd F' H' R (S.trans S') q
  | stuck => exact h
theorem PostO.bnd {α : Type} {Q : VK} {k' : α → Hp → Hp → Prop} {m : Mo α} {g : α → Mo Ob} (h : PostO K EI Wx B σ T F Q (bnd m g ρ))
    (st : ∀ a ρ1 F1 H1, Rel K B F1 H1 ρ1 σ T → Same F F1 → PostO K EI Wx B σ T F1 Q (g a ρ1) → k' a F1 H1) : Post K EI Wx B σ T F k' (m ρ) := by
  unfold DN.bnd at h
  cases e : m ρ with
  | ok a r =>
    rw [e] at h
    exact fun F' H' R S => st a r F' H' R S (h.le S)
  | exn x r => rw [e] at h; exact h
  | stuck => rw [e] at h; exact h
theorem PostS.le {D : Ends} {o : Out Fl} (S : Same F F1) (h : PostS K EI Wx B F D o) : PostS K EI Wx B F1 D o := by
  cases o with
  | ok a r =>
    cases a with
    | nx => exact fun σ' F' H' R S' => h σ' F' H' R (S.trans S')
    | bk => exact fun σ' F' H' R S' => h σ' F' H' R (S.trans S')
    | ct => exact fun σ' F' H' R S' => h σ' F' H' R (S.trans S')
    | rt d => exact fun v σ' F' H' R S' => h v σ' F' H' R (S.trans S')
  | exn x r => exact fun c dd σ' F' H' R S' q => h c dd σ' F' H' R (S.trans S') q
  | stuck => exact h
theorem PostS.bnd {α : Type} {D : Ends} {k' : α → Hp → Hp → Prop} {m : Mo α} {g : α → Mo Fl} (h : PostS K EI Wx B F D (bnd m g ρ))
    (st : ∀ a ρ1 F1 H1, Rel K B F1 H1 ρ1 σ [] → Same F F1 → PostS K EI Wx B F1 D (g a ρ1) → k' a F1 H1) : Post K EI Wx B σ [] F k' (m ρ) := by
  unfold DN.bnd at h
  cases e : m ρ with
  | ok a r =>
    rw [e] at h
    exact fun F' H' R S => st a r F' H' R S (h.le S)
  | exn x r => rw [e] at h; exact fun c dd F' H' R S' q => h c dd σ F' H' R S' q
  | stuck => rw [e] at h; exact h
theorem Post.opt {α : Type} {k : α → Hp → Hp → Prop} {o : Option α} (h : Post K EI Wx B σ T F k (opt o ρ)) : ∃ a, o = some a ∧ ∀ F' H', Rel K B F' H' ρ σ T → Same F F' → k a F' H' := by
  cases o with
  | none => exact h.elim
  | some a => exact ⟨a, rfl, h⟩
end

structure Good {ι : Type} (Xs : ι → Cx) (P : Program) (w : World) (K : PySem.W.Frag) (mg : Str → Option Value) (base : Heap) (N : List Str) (k : Nat) (Wx : WX) : Prop where
  hp : ∀ i, (Xs i).prog = P
  hw : ∀ i, (Xs i).w = w
  hK : ∀ i, (Xs i).K = K
  hm : ∀ i, (Xs i).mg = mg
  hb : ∀ i, (Xs i).base = base
  hN : ∀ i, (Xs i).N = N
  nd : N.Nodup
  calm : ∀ i, (Xs i).calm = true
  room : ∀ i, Room k (Xs i).A
  tk : ∀ i σ, PassesAt (L2.CX P w) (Xs i) σ (WE Wx σ)

abbrev BlkI (ι : Type) := ι × Shared × Hp × Addr × List (Str × Addr) × List Addr
abbrev blks {ι : Type} (Xs : ι → Cx) (scope : Scope) : BlkI ι → Cx := fun p => (Xs p.1).blk p.2.1 p.2.2.1 scope (compEnvC scope p.2.2.2.2.1 p.2.2.2.1 (Xs p.1).env) p.2.2.2.2.2
abbrev W0 : WX := fun _ _ _ _ => False

section
variable {ι : Type} {Xs : ι → Cx} {P : Program} {w : World} {K : PySem.W.Frag} {mg : Str → Option Value} {base : Heap} {N : List Str} {k : Nat} {Wx : WX} {EI : EIx}
theorem Good.fn (G : Good Xs P w K mg base N k Wx) {CX : CXT} {j : Nat} {f : Addr} {fd : FuncData} {ps : List Str} {sp : Sp} (h : FnOk P w K mg base CX j f fd ps sp) (i : ι) : FnOk (Xs i).prog (Xs i).w (Xs i).K (Xs i).mg (Xs i).base CX j f fd ps sp := by
  rw [G.hp i, G.hw i, G.hK i, G.hm i, G.hb i]
  exact h
theorem Good.units (G : Good Xs P w K mg base N k Wx) (i : ι) : (Xs i).A.units + 64 < cLine := by
  have h := (G.room i).un
  omega
theorem Good.blk (G : Good Xs P w K mg base N k Wx) (scope : Scope) : Good (blks Xs scope) P w K mg base N k W0 :=
  ⟨fun p => G.hp p.1, fun p => G.hw p.1, fun p => G.hK p.1, fun p => G.hm p.1, fun p => G.hb p.1, fun p => G.hN p.1, G.nd, fun p => G.calm p.1, fun p => G.room p.1, fun p σ pins H s e s' I c => by
    have h := passL (X := blks Xs scope p) pins σ H s e s' I
    have hp : (blks Xs scope p).prog = P := G.hp p.1
    have hw : (blks Xs scope p).w = w := G.hw p.1
    rw [hp, hw] at h
    exact h c⟩

def FE (Xs : ι → Cx) (K : PySem.W.Frag) (EI : EIx) (Wx : WX) (e : Expr) (f : Mo Dt) : Prop := ∃ t, (∀ i, PE (Xs i) e t) ∧ RE K EI Wx t f
def FO (Xs : ι → Cx) (K : PySem.W.Frag) (EI : EIx) (Wx : WX) (e : Expr) (f : Mo Ob) : Prop := ∃ t, (∀ i, PE (Xs i) e t) ∧ RO K EI Wx t f
def FT (Xs : ι → Cx) (K : PySem.W.Frag) (EI : EIx) (Wx : WX) (e : Expr) (f : Mo Bool) : Prop := ∃ t, (∀ i, PT (Xs i) e t) ∧ RT K EI Wx t f
def FW (Xs : ι → Cx) (K : PySem.W.Frag) (EI : EIx) (Wx : WX) (e : Expr) (f : Mo Bool) : Prop := ∃ t, (∀ i, PW (Xs i) e t) ∧ RT K EI Wx t f
def FA (Xs : ι → Cx) (K : PySem.W.Frag) (EI : EIx) (Wx : WX) (es : List Expr) (f : Mo (List Dt)) : Prop := ∃ t, (∀ i, PA (Xs i) es t) ∧ RA K EI Wx t f
def FP (Xs : ι → Cx) (K : PySem.W.Frag) (EI : EIx) (Wx : WX) (e : Option Expr) (f : Mo (Option Int)) : Prop := ∃ t, (∀ i, PO (Xs i) e t) ∧ RP K EI Wx t f
def FS (Xs : ι → Cx) (K : PySem.W.Frag) (EI : EIx) (Wx : WX) (e : Stmt) (f : Mo Fl) : Prop := ∃ t, (∀ i, PS (Xs i) e t) ∧ RS K EI Wx t f
def FSs (Xs : ι → Cx) (K : PySem.W.Frag) (EI : EIx) (Wx : WX) (e : List Stmt) (f : Mo Fl) : Prop := ∃ t, (∀ i, PSs (Xs i) e t) ∧ RS K EI Wx t f
def FG (Xs : ι → Cx) (K : PySem.W.Frag) (e : Expr) (is : List Nat) (f : Dt → Mo Unit) : Prop := ∃ g, (∀ i, PG (Xs i) e g) ∧ RG K g is f
def FI (Xs : ι → Cx) (K : PySem.W.Frag) (EI : EIx) (Wx : WX) (tg e : Expr) (f : Mo (List Dt)) : Prop := ∃ wi, (∀ i, PI (Xs i) tg e wi) ∧ RI K EI Wx wi f

def OpOk (K : PySem.W.Frag) (r : R2) (op : Dt → Dt → Option Dt) : Prop :=
  ∀ F H x y d e z Q, Same F H → Df K F x d → Df K F y e → op d e = some z → (∀ v F' H', Grown F H F' H' → Df K F' v z → Q v H') → r x y H Q
def UnOk (K : PySem.W.Frag) (r : V → Hp → VK → Prop) (op : Dt → Option Dt) : Prop :=
  ∀ F H x d z Q, Same F H → Df K F x d → op d = some z → (∀ v F' H', Grown F H F' H' → Df K F' v z → Q v H') → r x H Q
def op2 (op : Dt → Dt → Option Dt) (f g : Mo Dt) : Mo Dt := bnd f fun d => bnd g fun e => opt (op d e)
def op1 (op : Dt → Option Dt) (f : Mo Dt) : Mo Dt := bnd f fun d => opt (op d)
theorem re_op {ta tb : TE} {f g : Mo Dt} {r : R2} {op : Dt → Dt → Option Dt} (ha : RE K EI Wx ta f) (hb : RE K EI Wx tb g) (hr : OpOk K r op) : RE K EI Wx (tOp r ta tb) (op2 op f g) := by
  intro B F H ρ σ T Q R h
  refine ha B F H ρ σ T _ R (h.bnd fun d ρ1 F1 H1 R1 S1 h1 x dx => ?_)
  refine hb B F1 H1 ρ1 σ T _ R1 (h1.bnd fun e ρ2 F2 H2 R2 S2 h2 y dy => ?_)
  obtain ⟨z, ez, h3⟩ := h2.opt
  exact hr F2 H2 x y d e z Q R2.fro (df_mono S2 dx) dy ez fun v F' H' G dz => h3 F' H' (R2.grown G) (G.same' R2.fro) v dz
theorem re_un {ta : TE} {f : Mo Dt} {r : V → Hp → VK → Prop} {op : Dt → Option Dt} (ha : RE K EI Wx ta f) (hr : UnOk K r op) : RE K EI Wx (tUn r ta) (op1 op f) := by
  intro B F H ρ σ T Q R h
  refine ha B F H ρ σ T _ R (h.bnd fun d ρ1 F1 H1 R1 S1 h1 x dx => ?_)
  obtain ⟨z, ez, h3⟩ := h1.opt
  exact hr F1 H1 x d z Q R1.fro dx ez fun v F' H' G dz => h3 F' H' (R1.grown G) (G.same' R1.fro) v dz
theorem opr_or {X : Cx} {f : Value → Value → Sem Value} {r r' : R2} (h : OpR X f r) (h' : OpR X f r') : OpR X f (fun x y H Q => r x y H Q ∨ r' x y H Q) := by
  intro pins s σ H x y v u Q I rx ry q
  rcases q with q | q
  · exact h pins s σ H x y v u Q I rx ry q
  · exact h' pins s σ H x y v u Q I rx ry q

/-- a slot as data; an owned list stands for good from then on -/
def var (i : Nat) : Mo Dt := fun ρ => match ρ[i]? with
  | some (some (.val d)) => .ok d ρ
  | some (some (.own o)) => .ok (obD o) (ρ.set i (some (.val (obD o))))
  | _ => .stuck
theorem re_var (i : Nat) : RE K EI Wx (tVar i) (var i) := by
  intro B F H ρ σ T Q R h
  unfold var at h
  split at h
  · rename_i d e
    obtain ⟨v, h1, h2⟩ := R.val i d e
    exact ⟨v, h1, h F H R (Same.refl _) v h2⟩
  · rename_i ds e
    obtain ⟨F', a, S, h1, R', hd⟩ := R.fix e
    exact ⟨.ref a, h1, h F' H R' S _ hd⟩
  · exact h.elim
theorem fe_var (G : Good Xs P w K mg base N k Wx) (i : Nat) {x : Str} {pos : Pos} (hN : N[i]? = some x := by rfl) (hv : ∀ j, Vis (Xs j).env.scope x := by intro _; first | exact Or.inl rfl | exact Or.inr (Or.inl rfl) | exact Or.inr (Or.inr rfl))
    (h1 : (x == ("__debug__" : Str)) = false := by decide) (h2 : (x == ("__classdict__" : Str)) = false := by decide) : FE Xs K EI Wx (.Name x pos) (var i) :=
  ⟨_, fun j => pe_var (i := i) (by rw [G.hN j]; exact hN) (hv j) h1 h2, re_var i⟩
theorem re_con {v : V} {d : Dt} (h : ∀ F, Df K F v d) : RE K EI Wx (tC v) (ret d) := fun B F H ρ σ T Q R q => q F H R (Same.refl _) v (h F)
theorem fe_int {n : Int} {j pos} : FE Xs K EI Wx (.Constant (.int n) j pos) (ret (.int n)) := ⟨_, fun _ => pe_int, re_con fun _ => .int n⟩
theorem fe_bl {b : Bool} {j pos} : FE Xs K EI Wx (.Constant (.bool b) j pos) (ret (.bool b)) := ⟨_, fun _ => pe_bl, re_con fun _ => .bl b⟩
theorem fe_non {j pos} : FE Xs K EI Wx (.Constant .none j pos) (ret .none) := ⟨_, fun _ => pe_non, re_con fun _ => .non⟩
/-- a constant of a module -/
theorem fe_con (G : Good Xs P w K mg base N k Wx) {x : Str} {v : V} {u : Value} {d : Dt} {pos : Pos} (hm : mg x = some u) (r : RelV v u) (hd : ∀ F, Df K F v d) (hg : ∀ i, Gl (Xs i) x := by intro _; rfl) (h1 : (x == ("__debug__" : Str)) = false := by decide) :
    FE Xs K EI Wx (.Name x pos) (ret d) := ⟨_, fun i => pe_glob (hg i) (by rw [G.hm i]; exact hm) r h1, re_con hd⟩

variable {a b : Expr} {f g : Mo Dt} {pos : Pos}
def dAdd : Dt → Dt → Option Dt
  | .int i, .int j => some (.int (i + j))
  | .str x, .str y => if x.length + y.length ≤ sizeLine then some (.str (x ++ y)) else none
  | .tuple xs, .tuple ys => if xs.length + ys.length ≤ sizeLine then some (.tuple (xs ++ ys)) else none
  | .list xs, .list ys => if xs.length + ys.length ≤ sizeLine then some (.list (xs ++ ys)) else none
  | _, _ => none
def rAdd (K : PySem.W.Frag) : R2 := fun x y H Q => ((rI0 fun i j => V.int (i + j)) x y H Q ∨ (∃ i j, x = .str i ∧ y = .str j ∧ i.length + j.length ≤ sizeLine ∧ Q (.str (i ++ j)) H)) ∨ (rCatA K x y H Q ∨ rCat x y H Q)
theorem op_addAll {X : Cx} : OpR X (binaryOp .Add) (rAdd X.K) := opr_or (opr_or op_add op_add_str) (opr_or op_catA op_cat)
theorem addOk : OpOk K (rAdd K) dAdd := by
  intro F H x y d e z Q S dx dy hz q
  unfold dAdd at hz
  split at hz
  · cases dx; cases dy; cases hz
    exact .inl (.inl ⟨_, _, rfl, rfl, q _ F H .same (.int _)⟩)
  · split at hz
    · rename_i hl
      cases dx; cases dy; cases hz
      exact .inl (.inr ⟨_, _, rfl, rfl, hl, q _ F H .same (.str _)⟩)
    · cases hz
  · split at hz
    · rename_i hl
      cases dx with
      | tup h1 h2 =>
        cases dy with
        | tup g1 g2 =>
          cases hz
          refine .inr (.inl ⟨_, _, _, _, rfl, rfl, same_seqT S h1, same_seqT S g1, by rw [dfAll_len h2, dfAll_len g2]; exact hl, fun e0 => ?_, fun e0 e1 => ?_, fun e0 e1 p hp => ?_⟩)
          · subst e0
            cases h2
            exact q _ F H .same (.tup g1 g2)
          · subst e1
            cases g2
            rw [List.append_nil] at q
            exact q _ F H .same (.tup h1 h2)
          · exact q _ _ _ (.new hp) (.tup (.inl upd_same) (dfAll_mono (same_upd (S.free hp)) (dfAll_app h2 g2)))
    · cases hz
  · split at hz
    · rename_i hl
      cases dx with
      | lst h1 h2 =>
        cases dy with
        | lst g1 g2 =>
          cases hz
          exact .inr (.inr ⟨_, _, _, _, rfl, rfl, S _ _ h1, S _ _ g1, by rw [dfAll_len h2, dfAll_len g2]; exact hl, fun p hp => q _ _ _ (.new hp) (.lst upd_same (dfAll_mono (same_upd (S.free hp)) (dfAll_app h2 g2)))⟩)
    · cases hz
  · cases hz
theorem fe_op {op : Operator} {r : R2} {o : Dt → Dt → Option Dt} (hp : ∀ i, OpR (Xs i) (binaryOp op) r) (ho : OpOk K r o) (ha : FE Xs K EI Wx a f) (hb : FE Xs K EI Wx b g) : FE Xs K EI Wx (.BinOp a op b pos) (op2 o f g) := by
  obtain ⟨ta, pa, qa⟩ := ha
  obtain ⟨tb, pb, qb⟩ := hb
  exact ⟨_, fun i => pe_op (hp i) (pa i) (pb i), re_op qa qb ho⟩
theorem fe_add (G : Good Xs P w K mg base N k Wx) (ha : FE Xs K EI Wx a f) (hb : FE Xs K EI Wx b g) : FE Xs K EI Wx (.BinOp a .Add b pos) (op2 dAdd f g) :=
  fe_op (fun i => by have h := @op_addAll (Xs i); rw [G.hK i] at h; exact h) addOk ha hb
/-- two ints -/
def dII (c : Int → Int → Bool) (o : Int → Int → Dt) : Dt → Dt → Option Dt
  | .int i, .int j => if c i j then some (o i j) else none
  | _, _ => none
theorem iiOk {C : Int → Int → Prop} {c : Int → Int → Bool} {o : Int → Int → Int} (hc : ∀ i j, c i j = true → C i j) : OpOk K (rI C fun i j => .int (o i j)) (dII c fun i j => .int (o i j)) := by
  intro F H x y d e z Q S dx dy hz q
  unfold dII at hz
  split at hz
  · split at hz
    · rename_i hl
      cases dx; cases dy; cases hz
      exact ⟨_, _, rfl, rfl, hc _ _ hl, q _ F H .same (.int _)⟩
    · cases hz
  · cases hz
theorem ii0Ok {o : Int → Int → Int} : OpOk K (rI0 fun i j => .int (o i j)) (dII (fun _ _ => true) fun i j => .int (o i j)) := by
  intro F H x y d e z Q S dx dy hz q
  unfold dII at hz
  split at hz
  · cases dx; cases dy
    rw [if_pos rfl] at hz
    cases hz
    exact ⟨_, _, rfl, rfl, q _ F H .same (.int _)⟩
  · cases hz
theorem ib0Ok {o : Int → Int → Bool} : OpOk K (rI0 fun i j => .bl (o i j)) (dII (fun _ _ => true) fun i j => .bool (o i j)) := by
  intro F H x y d e z Q S dx dy hz q
  unfold dII at hz
  split at hz
  · cases dx; cases dy
    rw [if_pos rfl] at hz
    cases hz
    exact ⟨_, _, rfl, rfl, q _ F H .same (.bl _)⟩
  · cases hz
def dSub := dII (fun _ _ => true) fun i j => .int (i - j)
theorem fe_sub (ha : FE Xs K EI Wx a f) (hb : FE Xs K EI Wx b g) : FE Xs K EI Wx (.BinOp a .Sub b pos) (op2 dSub f g) := fe_op (fun _ => op_sub) ii0Ok ha hb
def dFdv := dII (fun _ j => decide (j ≠ 0) && decide (j.natAbs < 1073741824)) fun i j => .int (i.fdiv j)
theorem fe_fdv (ha : FE Xs K EI Wx a f) (hb : FE Xs K EI Wx b g) : FE Xs K EI Wx (.BinOp a .FloorDiv b pos) (op2 dFdv f g) :=
  fe_op (fun _ => op_fdivN) (iiOk (C := CDivN) fun i j h => by
    simp only [Bool.and_eq_true, decide_eq_true_eq] at h
    exact h) ha hb
def dMod := dII (fun _ j => decide (j ≠ 0)) fun i j => .int (i.fmod j)
theorem fe_mod (ha : FE Xs K EI Wx a f) (hb : FE Xs K EI Wx b g) : FE Xs K EI Wx (.BinOp a .Mod b pos) (op2 dMod f g) :=
  fe_op (fun _ => op_modN) (iiOk (C := fun _ j => j ≠ 0) fun i j h => of_decide_eq_true h) ha hb
def dPow := dII (fun i j => decide (0 ≤ j) && decide (j ≤ 1000000) && decide (i.natAbs < 2 ^ 64)) fun i j => .int (i ^ j.toNat)
theorem fe_pow (ha : FE Xs K EI Wx a f) (hb : FE Xs K EI Wx b g) : FE Xs K EI Wx (.BinOp a .Pow b pos) (op2 dPow f g) :=
  fe_op (fun _ => op_pow) (iiOk (C := CPow) fun i j h => by
    simp only [Bool.and_eq_true, decide_eq_true_eq] at h
    exact ⟨h.1.1, h.1.2, h.2⟩) ha hb
/-- int * int, one of them within 64 bits; a list times an int -/
def dMul : Dt → Dt → Option Dt
  | .int i, .int j => if (decide (-(2 ^ 64) < i) && decide (i < 2 ^ 64)) || (decide (-(2 ^ 64) < j) && decide (j < 2 ^ 64)) then some (.int (i * j)) else none
  | .list xs, .int n => if decide (-(2 ^ 63) ≤ n) && decide (n < 2 ^ 63) && decide (xs.length * n.toNat ≤ sizeLine) then some (.list (List.replicate n.toNat xs).flatten) else none
  | _, _ => none
theorem mulOk : OpOk K (fun x y H Q => rI CMul (fun i j => .int (i * j)) x y H Q ∨ rRep x y H Q) dMul := by
  intro F H x y d e z Q S dx dy hz q
  unfold dMul at hz
  split at hz
  · split at hz
    · rename_i hl
      cases dx; cases dy; cases hz
      simp only [Bool.or_eq_true, Bool.and_eq_true, decide_eq_true_eq] at hl
      exact .inl ⟨_, _, rfl, rfl, hl, q _ F H .same (.int _)⟩
    · cases hz
  · split at hz
    · rename_i hl
      cases dx with
      | lst h1 h2 =>
        cases dy
        cases hz
        simp only [Bool.and_eq_true, decide_eq_true_eq] at hl
        exact .inr ⟨_, _, _, rfl, rfl, S _ _ h1, hl.1.1, hl.1.2, by rw [dfAll_len h2]; exact hl.2, fun p hp => q _ _ _ (.new hp) (.lst upd_same (dfAll_mono (same_upd (S.free hp)) (dfAll_rep h2 _)))⟩
    · cases hz
  · cases hz
theorem fe_mul (ha : FE Xs K EI Wx a f) (hb : FE Xs K EI Wx b g) : FE Xs K EI Wx (.BinOp a .Mult b pos) (op2 dMul f g) := fe_op (fun _ => opr_or op_mul op_rep) mulOk ha hb
def dNeg : Dt → Option Dt
  | .int i => some (.int (-i))
  | _ => none
theorem fe_neg (ha : FE Xs K EI Wx a f) : FE Xs K EI Wx (.UnaryOp .USub a pos) (op1 dNeg f) := by
  obtain ⟨ta, pa, qa⟩ := ha
  refine ⟨_, fun i => pe_un un_neg (pa i), re_un qa ?_⟩
  intro F H x d z Q S dx hz q
  unfold dNeg at hz
  split at hz
  · cases dx; cases hz
    exact ⟨_, rfl, q _ F H .same (.int _)⟩
  · cases hz
end
end DN

namespace DN
open PySem PySem.Spec L2
section
variable {ι : Type} {Xs : ι → Cx} {P : Program} {w : World} {K : PySem.W.Frag} {mg : Str → Option Value} {base : Heap} {N : List Str} {k : Nat} {Wx : WX} {EI : EIx}
variable {a b c : Expr} {f g h : Mo Dt} {pos : Pos}

theorem fe_cmp {op : CmpOp} {r : R2} {o : Dt → Dt → Option Dt} (hp : ∀ i, OpR (Xs i) (compareOp op) r) (ho : OpOk K r o) (hm : behindInMarks op b = false) (ha : FE Xs K EI Wx a f) (hb : FE Xs K EI Wx b g) : FE Xs K EI Wx (.Compare a [op] [b] pos) (op2 o f g) := by
  obtain ⟨ta, pa, qa⟩ := ha
  obtain ⟨tb, pb, qb⟩ := hb
  exact ⟨_, fun i => pe_cmpR (hp i) (pa i) (pb i) hm, re_op qa qb ho⟩
def asB (f : Mo Dt) : Mo Bool := bnd f fun d => match d with
  | .bool b => ret b
  | _ => bad
theorem rt_tst {t : TE} (q : RE K EI Wx t f) : RT K EI Wx (fun σ H Q => t σ H fun z H1 => ∃ k, z = .bl k ∧ Q k H1) (asB f) := by
  intro B F H ρ σ T Q R z
  refine q B F H ρ σ T _ R (z.bnd fun d ρ1 F1 H1 R1 S1 h1 x dx => ?_)
  cases d <;> first | exact h1.elim | skip
  cases dx
  exact ⟨_, rfl, h1 F1 H1 R1 (Same.refl _)⟩
theorem ft_cmp {op : CmpOp} {r : R2} {o : Dt → Dt → Option Dt} (hp : ∀ i, OpR (Xs i) (compareOp op) r) (ho : OpOk K r o) (hm : behindInMarks op b = false) (ha : FE Xs K EI Wx a f) (hb : FE Xs K EI Wx b g) : FT Xs K EI Wx (.Compare a [op] [b] pos) (asB (op2 o f g)) := by
  obtain ⟨ta, pa, qa⟩ := ha
  obtain ⟨tb, pb, qb⟩ := hb
  exact ⟨_, fun i => pt_cmpR (hp i) (pa i) (pb i) hm, rt_tst (re_op qa qb ho)⟩
def dLt := dII (fun _ _ => true) fun i j => .bool (decide (i < j))
def dLe := dII (fun _ _ => true) fun i j => .bool (decide (i ≤ j))
def dGt := dII (fun _ _ => true) fun i j => .bool (decide (j < i))
def dGe := dII (fun _ _ => true) fun i j => .bool (decide (j ≤ i))
theorem fe_lt (ha : FE Xs K EI Wx a f) (hb : FE Xs K EI Wx b g) : FE Xs K EI Wx (.Compare a [.Lt] [b] pos) (op2 dLt f g) := fe_cmp (fun _ => op_lt) ib0Ok (nomark _) ha hb
theorem ft_lt (ha : FE Xs K EI Wx a f) (hb : FE Xs K EI Wx b g) : FT Xs K EI Wx (.Compare a [.Lt] [b] pos) (asB (op2 dLt f g)) := ft_cmp (fun _ => op_lt) ib0Ok (nomark _) ha hb
theorem ft_gt (ha : FE Xs K EI Wx a f) (hb : FE Xs K EI Wx b g) : FT Xs K EI Wx (.Compare a [.Gt] [b] pos) (asB (op2 dGt f g)) := ft_cmp (fun _ => op_gt) ib0Ok (nomark _) ha hb
theorem ft_ge (ha : FE Xs K EI Wx a f) (hb : FE Xs K EI Wx b g) : FT Xs K EI Wx (.Compare a [.GtE] [b] pos) (asB (op2 dGe f g)) := ft_cmp (fun _ => op_ge) ib0Ok (nomark _) ha hb

mutual
theorem df_dp {F : Hp} : ∀ {d : Dt} {v : V}, Df K F v d → PyData.canLay0 d = true → Dp K F v d
  | _, _, .non, _ => .non
  | _, _, .bl b, _ => .bl b
  | _, _, .int i, _ => .int i
  | _, _, .str x, _ => .str x
  | _, _, .lst h1 h2, e => .lst (.inl (.inl h1)) (dfAll_dp h2 (by simpa [PyData.canLay0] using e))
  | _, _, .dkt h1 h0 h2, e => by simp [PyData.canLay0] at e
  | _, _, .dkk h1 h0 h2, e => by simp [PyData.canLay0] at e
  | _, _, .tup h1 h2, e => .tup h1.sq (dfAll_dp h2 (by simpa [PyData.canLay0] using e))
  | _, _, .frl h1 h2, e => by simp [PyData.canLay0] at e
theorem dfAll_dp {F : Hp} : ∀ {ds : List Dt} {vs : List V}, DfAll K F vs ds → PyData.canLayAll0 ds = true → DpAll K F vs ds
  | _, _, .nil, _ => .nil
  | _, _, .cons h1 h2, e => by
    simp only [PyData.canLayAll0, Bool.and_eq_true] at e
    exact .cons (df_dp h1 e.1) (dfAll_dp h2 e.2)
end
def dEq (d e : Dt) : Option Dt := if SeqAt.shaped d && SeqAt.shaped e then some (.bool (PyData.eqv d e)) else none
def dNe (d e : Dt) : Option Dt := if SeqAt.shaped d && SeqAt.shaped e then some (.bool (!PyData.eqv d e)) else none
theorem dp_same {F F' : Hp} (S : Same F F') {v : V} {d : Dt} (h : Df K F v d) (e : SeqAt.shaped d = true) : Dp K F' v d := df_dp (df_mono S h) (SeqAt.canLay_of_shaped e)
theorem eqOk : OpOk K (rEqD K) dEq := by
  intro F H x y d e z Q S dx dy hz q
  unfold dEq at hz
  split at hz
  · rename_i hc
    simp only [Bool.and_eq_true] at hc
    cases hz
    exact ⟨d, e, dp_same S dx hc.1, dp_same S dy hc.2, hc.1, hc.2, q _ F H .same (.bl _)⟩
  · cases hz
theorem neOk : OpOk K (rNeD K) dNe := by
  intro F H x y d e z Q S dx dy hz q
  unfold dNe at hz
  split at hz
  · rename_i hc
    simp only [Bool.and_eq_true] at hc
    cases hz
    exact ⟨d, e, dp_same S dx hc.1, dp_same S dy hc.2, hc.1, hc.2, q _ F H .same (.bl _)⟩
  · cases hz
theorem Good.eqR (G : Good Xs P w K mg base N k Wx) (i : ι) : OpR (Xs i) (compareOp .Eq) (rEqD K) := by
  have z := @op_eqD (Xs i) (G.units i)
  rw [G.hK i] at z
  exact z
theorem Good.neR (G : Good Xs P w K mg base N k Wx) (i : ι) : OpR (Xs i) (compareOp .NotEq) (rNeD K) := by
  have z := @op_neD (Xs i) (G.units i)
  rw [G.hK i] at z
  exact z
theorem fe_eq (G : Good Xs P w K mg base N k Wx) (ha : FE Xs K EI Wx a f) (hb : FE Xs K EI Wx b g) : FE Xs K EI Wx (.Compare a [.Eq] [b] pos) (op2 dEq f g) := fe_cmp G.eqR eqOk (nomark _) ha hb
theorem ft_eq (G : Good Xs P w K mg base N k Wx) (ha : FE Xs K EI Wx a f) (hb : FE Xs K EI Wx b g) : FT Xs K EI Wx (.Compare a [.Eq] [b] pos) (asB (op2 dEq f g)) := ft_cmp G.eqR eqOk (nomark _) ha hb
theorem ft_ne (G : Good Xs P w K mg base N k Wx) (ha : FE Xs K EI Wx a f) (hb : FE Xs K EI Wx b g) : FT Xs K EI Wx (.Compare a [.NotEq] [b] pos) (asB (op2 dNe f g)) := ft_cmp G.neR neOk (nomark _) ha hb

/-- is None; is of two bools -/
def isNone : Dt → Bool
  | .none => true
  | _ => false
theorem df_non {F : Hp} {v : V} {d : Dt} (x : Df K F v d) : decide (v = .non) = isNone d := by cases x <;> rfl
def dIs : Dt → Dt → Option Dt
  | d, .none => some (.bool (isNone d))
  | .bool p, .bool q => some (.bool (decide (p = q)))
  | _, _ => none
def dIsN : Dt → Dt → Option Dt
  | d, .none => some (.bool (!isNone d))
  | .bool p, .bool q => some (.bool (!decide (p = q)))
  | _, _ => none
def rIsA : R2 := fun x y H Q => (y = .non ∧ Q (.bl (decide (x = .non))) H) ∨ rIsB x y H Q
theorem isOk : OpOk K rIsA dIs := by
  intro F H x y d e z Q S dx dy hz q
  unfold dIs at hz
  split at hz
  · cases dy; cases hz
    refine .inl ⟨rfl, ?_⟩
    rw [df_non dx]
    exact q _ F H .same (.bl _)
  · cases dx; cases dy; cases hz
    exact .inr ⟨_, _, rfl, rfl, q _ F H .same (.bl _)⟩
  · cases hz
theorem ft_is (ha : FE Xs K EI Wx a f) (hb : FE Xs K EI Wx b g) : FT Xs K EI Wx (.Compare a [.Is] [b] pos) (asB (op2 dIs f g)) := ft_cmp (fun _ => opr_or op_isN op_isBl) isOk (nomark _) ha hb
/-- a < b < c -/
def chain (o o' : Dt → Dt → Option Dt) (f g h : Mo Dt) : Mo Dt := bnd f fun x => bnd g fun y => bnd (opt (o x y)) fun r => match r with
  | .bool true => bnd h fun z => opt (o' y z)
  | .bool false => ret (.bool false)
  | _ => bad
theorem re_chain {ta tb tc : TE} {r r' : R2} {o o' : Dt → Dt → Option Dt} (qa : RE K EI Wx ta f) (qb : RE K EI Wx tb g) (qc : RE K EI Wx tc h) (ho : OpOk K r o) (ho' : OpOk K r' o') : RE K EI Wx (tChain r r' ta tb tc) (chain o o' f g h) := by
  intro B F H ρ σ T Q R z
  refine qa B F H ρ σ T _ R (z.bnd fun d ρ1 F1 H1 R1 S1 h1 x dx => ?_)
  refine qb B F1 H1 ρ1 σ T _ R1 (h1.bnd fun e ρ2 F2 H2 R2 S2 h2 y dy => ?_)
  have h2' := (h2.bnd (k' := fun q F3 H3 => ∃ ρ3, Rel K B F3 H3 ρ3 σ T ∧ Same F2 F3 ∧ Post K EI Wx B σ T F3 (fun d F' H' => ∀ v, Df K F' v d → Q v H') ((match q with | .bool true => bnd h fun z => opt (o' e z) | .bool false => ret (.bool false) | _ => bad : Mo Dt) ρ3)) fun q ρ3 F3 H3 R3 S3 h3 => ⟨ρ3, R3, S3, h3⟩)
  obtain ⟨p, ep, h3⟩ := h2'.opt
  refine ho F2 H2 x y d e p _ R2.fro (df_mono S2 dx) dy ep fun v F' H' G dv => ?_
  obtain ⟨ρ3, R3, S3, h4⟩ := h3 F' H' (R2.grown G) (G.same' R2.fro)
  cases p with
  | bool p =>
    cases dv
    refine ⟨p, rfl, ?_⟩
    cases p with
    | true =>
      rw [if_pos rfl]
      refine qc B F' H' ρ3 σ T _ R3 (h4.bnd fun u ρ4 F4 H4 R4 S4 h5 zv dz => ?_)
      obtain ⟨w, ew, h6⟩ := h5.opt
      exact ho' F4 H4 y zv e u w Q R4.fro (df_mono (S3.trans S4) dy) dz ew fun v F5 H5 G dv => h6 F5 H5 (R4.grown G) (G.same' R4.fro) v dv
    | false =>
      rw [if_neg Bool.false_ne_true]
      exact h4 F' H' R3 (Same.refl _) _ (.bl _)
  | _ => exact h4.elim
theorem fe_chain {op op' : CmpOp} {r r' : R2} {o o' : Dt → Dt → Option Dt} (hp : ∀ i, OpR (Xs i) (compareOp op) r) (ho : OpOk K r o) (hp' : ∀ i, OpR (Xs i) (compareOp op') r') (ho' : OpOk K r' o') (ha : FE Xs K EI Wx a f) (hb : FE Xs K EI Wx b g) (hc : FE Xs K EI Wx c h)
    (hm : lastMarks [op, op'] [b, c] = false := by with_unfolding_all rfl) : FE Xs K EI Wx (.Compare a [op, op'] [b, c] pos) (chain o o' f g h) := by
  obtain ⟨ta, pa, qa⟩ := ha
  obtain ⟨tb, pb, qb⟩ := hb
  obtain ⟨tc, pc, qc⟩ := hc
  exact ⟨_, fun i => pe_chain (hp i) (hp' i) (pa i) (pb i) (pc i) hm, re_chain qa qb qc ho ho'⟩
theorem fe_lele (ha : FE Xs K EI Wx a f) (hb : FE Xs K EI Wx b g) (hc : FE Xs K EI Wx c h) (hm : lastMarks [.LtE, .LtE] [b, c] = false := by with_unfolding_all rfl) : FE Xs K EI Wx (.Compare a [.LtE, .LtE] [b, c] pos) (chain dLe dLe f g h) := fe_chain (fun _ => op_le) ib0Ok (fun _ => op_le) ib0Ok ha hb hc hm
variable {p q : Mo Bool} {rest : List Expr}
def andM (p q : Mo Bool) : Mo Bool := bnd p fun c => if c = true then q else ret false
def orM (p q : Mo Bool) : Mo Bool := bnd p fun c => if c = true then ret true else q
def notM (p : Mo Bool) : Mo Bool := bnd p fun c => ret (!c)
def andV (f g : Mo Dt) : Mo Dt := bnd f fun d => match d with
  | .bool true => g
  | .bool false => ret (.bool false)
  | _ => bad
def orV (f g : Mo Dt) : Mo Dt := bnd f fun d => match d with
  | .bool true => ret (.bool true)
  | .bool false => g
  | _ => bad
def notV (f : Mo Dt) : Mo Dt := bnd f fun d => match d with
  | .bool b => ret (.bool (!b))
  | _ => bad
def iteV (p : Mo Bool) (f g : Mo Dt) : Mo Dt := bnd p fun c => if c = true then f else g
theorem ft_not (ha : FT Xs K EI Wx a p) : FT Xs K EI Wx (.UnaryOp .Not a pos) (notM p) := by
  obtain ⟨ta, pa, qa⟩ := ha
  refine ⟨_, fun i => pt_not (pa i), fun B F H ρ σ T Q R z => ?_⟩
  exact qa B F H ρ σ T _ R (z.bnd fun d ρ1 F1 H1 R1 S1 h1 => h1 F1 H1 R1 (Same.refl _))
theorem ft_of (ha : FW Xs K EI Wx a p) : FT Xs K EI Wx a p := by
  obtain ⟨ta, pa, qa⟩ := ha
  exact ⟨_, fun i => (pa i).pt, qa⟩
theorem fw_or1 (ha : FT Xs K EI Wx a p) : FW Xs K EI Wx (.BoolOp .Or [a] pos) p := by
  obtain ⟨ta, pa, qa⟩ := ha
  exact ⟨_, fun i => pw_or1 (pa i), qa⟩
theorem fw_or (ha : FT Xs K EI Wx a p) (hb : FW Xs K EI Wx (.BoolOp .Or (b :: rest) pos) q) : FW Xs K EI Wx (.BoolOp .Or (a :: b :: rest) pos) (orM p q) := by
  obtain ⟨ta, pa, qa⟩ := ha
  obtain ⟨tb, pb, qb⟩ := hb
  refine ⟨_, fun i => pw_or (pa i) (pb i), fun B F H ρ σ T Q R z => ?_⟩
  refine qa B F H ρ σ T _ R (z.bnd fun d ρ1 F1 H1 R1 S1 h1 => ?_)
  cases d with
  | false => exact iteF (qb B F1 H1 ρ1 σ T _ R1 h1)
  | true => exact iteT (h1 F1 H1 R1 (Same.refl _))
theorem fe_one {op} (ha : FE Xs K EI Wx a f) : FE Xs K EI Wx (.BoolOp op [a] pos) f := by
  obtain ⟨ta, pa, qa⟩ := ha
  exact ⟨_, fun i => pe_one (pa i), qa⟩
theorem fe_and (ha : FE Xs K EI Wx a f) (hb : FE Xs K EI Wx (.BoolOp .And (b :: rest) pos) g) : FE Xs K EI Wx (.BoolOp .And (a :: b :: rest) pos) (andV f g) := by
  obtain ⟨ta, pa, qa⟩ := ha
  obtain ⟨tb, pb, qb⟩ := hb
  refine ⟨_, fun i => pe_and (pa i) (pb i), fun B F H ρ σ T Q R z => ?_⟩
  refine qa B F H ρ σ T _ R (z.bnd fun d ρ1 F1 H1 R1 S1 h1 x dx => ?_)
  cases d <;> first | exact h1.elim | skip
  rename_i b0
  cases dx
  refine ⟨b0, rfl, ?_⟩
  cases b0 with
  | true => exact iteT (qb B F1 H1 ρ1 σ T _ R1 h1)
  | false => exact iteF (h1 F1 H1 R1 (Same.refl _) _ (.bl _))
theorem fe_ite (hc : FT Xs K EI Wx c p) (ha : FE Xs K EI Wx a f) (hb : FE Xs K EI Wx b g) : FE Xs K EI Wx (.IfExp c a b pos) (iteV p f g) := by
  obtain ⟨tc, pc, qc⟩ := hc
  obtain ⟨ta, pa, qa⟩ := ha
  obtain ⟨tb, pb, qb⟩ := hb
  refine ⟨_, fun i => pe_ifExp (pc i) (pa i) (pb i), fun B F H ρ σ T Q R z => ?_⟩
  refine qc B F H ρ σ T _ R (z.bnd fun d ρ1 F1 H1 R1 S1 h1 => ?_)
  cases d with
  | true => exact iteT (qa B F1 H1 ρ1 σ T _ R1 h1)
  | false => exact iteF (qb B F1 H1 ρ1 σ T _ R1 h1)

variable {es : List Expr} {fa : Mo (List Dt)}
def consA (f : Mo Dt) (fa : Mo (List Dt)) : Mo (List Dt) := bnd f fun d => bnd fa fun ds => ret (d :: ds)
theorem fa_nil : FA Xs K EI Wx [] (ret []) := ⟨_, fun _ => pa_nil, fun B F H ρ σ T Q R z => z F H R (Same.refl _) [] .nil⟩
theorem ra_cons {ta : TE} {tr : TA} (qa : RE K EI Wx ta f) (qb : RA K EI Wx tr fa) : RA K EI Wx (tCons ta tr) (consA f fa) := by
  intro B F H ρ σ T Q R z
  refine qa B F H ρ σ T _ R (z.bnd fun d ρ1 F1 H1 R1 S1 h1 x dx => ?_)
  refine qb B F1 H1 ρ1 σ T _ R1 (h1.bnd fun ds ρ2 F2 H2 R2 S2 h2 vs dvs => ?_)
  exact h2 F2 H2 R2 (Same.refl _) (x :: vs) (.cons (df_mono S2 dx) dvs)
theorem fa_cons (ha : FE Xs K EI Wx a f) (hb : FA Xs K EI Wx es fa) (hs : ∀ i, starEach (a :: es) (Xs i).env = (false, eval a (Xs i).env) :: starEach es (Xs i).env := by intro _; rfl) : FA Xs K EI Wx (a :: es) (consA f fa) := by
  obtain ⟨ta, pa, qa⟩ := ha
  obtain ⟨tb, pb, qb⟩ := hb
  exact ⟨_, fun i => pa_cons (pa i) (pb i) (hs i), ra_cons qa qb⟩
def tupM (fa : Mo (List Dt)) : Mo Dt := bnd fa fun ds => if ds.length ≤ sizeLine then ret (.tuple ds) else bad
theorem fe_tup {x1} (ha : FA Xs K EI Wx es fa) : FE Xs K EI Wx (.Tuple es x1 pos) (tupM fa) := by
  obtain ⟨ta, pa, qa⟩ := ha
  refine ⟨_, fun i => pe_tup (pa i), fun B F H ρ σ T Q R z => ?_⟩
  refine qa B F H ρ σ T _ R (z.bnd fun ds ρ1 F1 H1 R1 S1 h1 vs dvs => ?_)
  by_cases hl : ds.length ≤ sizeLine
  · rw [if_pos hl] at h1
    refine ⟨by rw [dfAll_len dvs]; exact hl, fun t ht => ?_⟩
    exact h1 _ _ (R1.new ht) (same_upd (R1.fp ht)) _ (.tup (.inl upd_same) (dfAll_mono (same_upd (R1.fp ht)) dvs))
  · rw [if_neg hl] at h1
    exact h1.elim
def lstM (fa : Mo (List Dt)) : Mo Ob := bnd fa fun ds => if ds.length ≤ sizeLine then ret (.lst ds) else bad
theorem fo_lst (ha : FA Xs K EI Wx es fa) : FO Xs K EI Wx (.List es pos) (lstM fa) := by
  obtain ⟨ta, pa, qa⟩ := ha
  refine ⟨_, fun i => pe_lst (pa i), fun B F H ρ σ T Q R z => ?_⟩
  refine qa B F H ρ σ T _ R (z.bnd fun ds ρ1 F1 H1 R1 S1 h1 vs dvs => ?_)
  by_cases hl : ds.length ≤ sizeLine
  · rw [if_pos hl] at h1
    refine ⟨by rw [dfAll_len dvs]; exact hl, fun t ht => ?_⟩
    exact h1 t _ _ (R1.pend ht ⟨vs, rfl, dvs⟩) (Same.refl _)
  · rw [if_neg hl] at h1
    exact h1.elim
/-- an owned thing at once as data -/
def frz (o : Mo Ob) : Mo Dt := bnd o fun x => ret (obD x)
theorem fe_of {o : Mo Ob} (ha : FO Xs K EI Wx a o) : FE Xs K EI Wx a (frz o) := by
  obtain ⟨ta, pa, qa⟩ := ha
  refine ⟨ta, pa, fun B F H ρ σ T Q R z => qa B F H ρ σ T Q R ?_⟩
  unfold frz bnd at z
  cases e : o ρ with
  | ok x ρ1 =>
    rw [e] at z
    intro t F1 H1 R1 S1
    obtain ⟨F2, S2, R2, d2⟩ := R1.settle
    exact z F2 H1 R2 (S1.trans S2) _ d2
  | exn x ρ1 => rw [e] at z; exact z
  | stuck => rw [e] at z; exact z
def dIx : Dt → Dt → Option Dt
  | .list ds, .int i => atI ds i
  | .tuple ds, .int i => atI ds i
  | .dict [(.none, .list ds)], .int i => atI ds i
  | _, _ => none
theorem df_at {F : Hp} {vs : List V} {ds : List Dt} {i : Int} {d : Dt} (hs : DfAll K F vs ds) (e : atI ds i = some d) : ∃ v, atI vs i = some v ∧ Df K F v d := by
  unfold atI at e ⊢
  rw [dfAll_len hs]
  cases z : ixN ds.length i with
  | none => rw [z] at e; cases e
  | some j =>
    rw [z] at e
    exact dfAll_get hs e
def rIxA (K : PySem.W.Frag) : R2 := fun x y H Q => rIxL K x y H Q ∨ rIxT K x y H Q
theorem ixOk : OpOk K (rIxA K) dIx := by
  intro F H x y d e z Q S dx dy hz q
  unfold dIx at hz
  split at hz
  · cases dx with
    | lst h1 h2 =>
      cases dy
      obtain ⟨v, e1, e2⟩ := df_at h2 hz
      exact .inl ⟨_, _, _, v, rfl, rfl, .inl (.inl (S _ _ h1)), e1, q _ F H .same e2⟩
  · cases dx with
    | tup h1 h2 =>
      cases dy
      obtain ⟨v, e1, e2⟩ := df_at h2 hz
      exact .inr ⟨_, _, _, v, rfl, rfl, same_seqT S h1, e1, q _ F H .same e2⟩
  · cases dx with
    | frl h1 h2 =>
      cases dy
      obtain ⟨v, e1, e2⟩ := df_at h2 hz
      exact .inl ⟨_, _, _, v, rfl, rfl, S.seq h1, e1, q _ F H .same e2⟩
  · cases hz
theorem Good.ixR (G : Good Xs P w K mg base N k Wx) (i : ι) : IxR (Xs i) (rIxA K) := by
  have z := (@ix_list (Xs i)).or (@ix_tup (Xs i))
  rw [G.hK i] at z
  exact z
theorem fe_ix (G : Good Xs P w K mg base N k Wx) (ha : FE Xs K EI Wx a f) (hb : FE Xs K EI Wx b g) (hs : PlainIx b := by intro _ _; rfl) : FE Xs K EI Wx (.Subscript a b pos) (op2 dIx f g) := by
  obtain ⟨ta, pa, qa⟩ := ha
  obtain ⟨tb, pb, qb⟩ := hb
  exact ⟨_, fun i => pe_ix (G.ixR i) (pa i) (pb i) hs, re_op qa qb ixOk⟩
/-- an item of a list that a slot owns -/
def ownAt (i : Nat) (g : Mo Dt) : Mo Dt := bnd g fun e => fun ρ => match ρ[i]?, e with
  | some (some (.own (.lst ds))), .int j => opt (atI ds j) ρ
  | some (some (.arg (.lst ds))), .int j => opt (atI ds j) ρ
  | _, _ => .stuck
theorem re_ownAt {i : Nat} {tb : TE} (qb : RE K EI Wx tb g) (hi : ∀ B F H ρ σ T, Rel K B F H ρ σ T → True) : RE K EI Wx (tOp (rIxA K) (tVar i) tb) (fun ρ => match ρ[i]? with
    | some (some (.own (.lst _))) => ownAt i g ρ
    | some (some (.arg (.lst _))) => ownAt i g ρ
    | _ => .stuck) := by
  intro B F H ρ σ T Q R z
  have key : ∀ ds0, Own ρ i (.lst ds0) → Post K EI Wx B σ T F (fun d F' H' => ∀ v, Df K F' v d → Q v H') (ownAt i g ρ) → tOp (rIxA K) (tVar i) tb σ H Q := by
    intro ds0 ow z
    obtain ⟨adr, s1, _⟩ := R.own i _ ow
    refine ⟨.ref adr, s1, qb B F H ρ σ T _ R (z.bnd fun e ρ1 F1 H1 R1 S1 h1 y dy => ?_)⟩
    have fin : ∀ ds j, Own ρ1 i (.lst ds) → e = .int j → Post K EI Wx B σ T F1 (fun d F' H' => ∀ v, Df K F' v d → Q v H') (opt (atI ds j) ρ1) → rIxA K (.ref adr) y H1 Q := by
      intro ds j ow1 ej hp
      subst ej
      cases dy
      obtain ⟨a1, s2, ⟨ho, g1, vs, eo, g2⟩, _⟩ := R1.own i _ ow1
      rw [s1] at s2
      cases s2
      subst eo
      obtain ⟨d, ed, h2⟩ := hp.opt
      obtain ⟨v, e1, e2⟩ := df_at g2 ed
      exact .inl ⟨_, _, _, v, rfl, rfl, .inl (.inl g1), e1, h2 F1 H1 R1 (Same.refl _) v e2⟩
    try dsimp only at h1
    split at h1
    · rename_i ds j e1
      exact fin ds j (.inl e1) rfl h1
    · rename_i ds j e1
      exact fin ds j (.inr e1) rfl h1
    · exact h1.elim
  try dsimp only at z
  split at z
  · rename_i ds e
    exact key ds (.inl e) z
  · rename_i ds e
    exact key ds (.inr e) z
  · exact z.elim
def oIx (i : Nat) (g : Mo Dt) : Mo Dt := fun ρ => match ρ[i]? with
    | some (some (.own (.lst _))) => ownAt i g ρ
    | some (some (.arg (.lst _))) => ownAt i g ρ
    | _ => .stuck
theorem fe_oIx (G : Good Xs P w K mg base N k Wx) (i : Nat) {x : Str} {p0 : Pos} (hb : FE Xs K EI Wx b g) (hs : PlainIx b := by intro _ _; rfl) (hN : N[i]? = some x := by rfl) (hv : ∀ j, Vis (Xs j).env.scope x := by intro _; first | exact Or.inl rfl | exact Or.inr (Or.inl rfl) | exact Or.inr (Or.inr rfl))
    (h1 : (x == ("__debug__" : Str)) = false := by decide) (h2 : (x == ("__classdict__" : Str)) = false := by decide) : FE Xs K EI Wx (.Subscript (.Name x p0) b pos) (oIx i g) := by
  obtain ⟨tb, pb, qb⟩ := hb
  exact ⟨_, fun j => pe_ix (G.ixR j) (pe_var (i := i) (by rw [G.hN j]; exact hN) (hv j) h1 h2) (pb j) hs, re_ownAt qb fun _ _ _ _ _ _ _ => trivial⟩

variable {fl fh : Mo (Option Int)} {lo hi : Option Expr} {p2 : Pos}
def partM (f : Mo Dt) : Mo (Option Int) := bnd f fun d => match d with
  | .int i => ret (some i)
  | _ => bad
theorem fp_none : FP Xs K EI Wx none (ret none) := ⟨_, fun _ => po_none, fun B F H ρ σ T Q R z => z F H R (Same.refl _)⟩
theorem fp_some (ha : FE Xs K EI Wx a f) : FP Xs K EI Wx (some a) (partM f) := by
  obtain ⟨ta, pa, qa⟩ := ha
  refine ⟨_, fun i => po_some (pa i), fun B F H ρ σ T Q R z => ?_⟩
  refine qa B F H ρ σ T _ R (z.bnd fun d ρ1 F1 H1 R1 S1 h1 x dx => ?_)
  cases d <;> first | exact h1.elim | skip
  cases dx
  exact ⟨_, rfl, h1 F1 H1 R1 (Same.refl _)⟩
def cutL {α : Type} (xs : List α) (lo hi : Option Int) : List α := (xs.drop (HT.sIx xs.length 0 lo)).take (HT.sIx xs.length xs.length hi - HT.sIx xs.length 0 lo)
def dSl : Dt → Option Int → Option Int → Option Dt
  | .list ds, lo, hi => some (.list (cutL ds lo hi))
  | .tuple ds, lo, hi => some (.tuple (cutL ds lo hi))
  | _, _, _ => none
def sliceM (f : Mo Dt) (fl fh : Mo (Option Int)) : Mo Dt := bnd f fun d => bnd fl fun l => bnd fh fun u => opt (dSl d l u)
theorem df_cut {F : Hp} {vs : List V} {ds : List Dt} {l u : Option Int} (hs : DfAll K F vs ds) : DfAll K F (cutV vs l u) (cutL ds l u) := by
  unfold cutV cutL
  rw [dfAll_len hs]
  exact dfAll_take _ (dfAll_drop _ hs)
theorem cutL_all {α : Type} {xs : List α} {l u : Option Int} (h1 : HT.sIx xs.length 0 l = 0) (h2 : HT.sIx xs.length xs.length u = xs.length) : cutL xs l u = xs := by
  unfold cutL
  rw [h1, h2]
  simp
theorem fe_slice (G : Good Xs P w K mg base N k Wx) (ha : FE Xs K EI Wx a f) (hl : FP Xs K EI Wx lo fl) (hu : FP Xs K EI Wx hi fh) : FE Xs K EI Wx (.Subscript a (.Slice lo hi none p2) pos) (sliceM f fl fh) := by
  obtain ⟨ta, pa, qa⟩ := ha
  obtain ⟨tl, pl, ql⟩ := hl
  obtain ⟨tu, pu, qu⟩ := hu
  refine ⟨tSl (fun x l u H Q => rSlL K x l u H Q ∨ rSlA K x l u H Q) ta tl tu, fun i => ?_, fun B F H ρ σ T Q R z => ?_⟩
  · have z := (@sl_list (Xs i)).or (@sl_tupA (Xs i))
    rw [G.hK i] at z
    exact pe_slice z (pa i) (pl i) (pu i)
  · refine qa B F H ρ σ T _ R (z.bnd fun d ρ1 F1 H1 R1 S1 h1 x dx => ?_)
    refine ql B F1 H1 ρ1 σ T _ R1 (h1.bnd fun l ρ2 F2 H2 R2 S2 h2 => ?_)
    refine qu B F2 H2 ρ2 σ T _ R2 (h2.bnd fun u ρ3 F3 H3 R3 S3 h3 => ?_)
    obtain ⟨e, ee, h4⟩ := h3.opt
    have dx3 := df_mono (S2.trans S3) dx
    unfold dSl at ee
    split at ee
    · cases ee
      cases dx3 with
      | lst g1 g2 =>
        refine .inl ⟨_, _, rfl, .inl (.inl (R3.fro _ _ g1)), fun t ht => ?_⟩
        exact h4 _ _ (R3.new ht) (same_upd (R3.fp ht)) _ (.lst upd_same (dfAll_mono (same_upd (R3.fp ht)) (df_cut g2)))
    · cases ee
      cases dx3 with
      | tup g1 g2 =>
        refine .inr ⟨_, _, rfl, same_seqT R3.fro g1, fun hw => ?_, fun hw t ht => ?_⟩
        · rw [dfAll_len g2] at hw
          rw [cutL_all hw.1 hw.2] at h4
          exact h4 F3 H3 R3 (Same.refl _) _ (.tup g1 g2)
        · exact h4 _ _ (R3.new ht) (same_upd (R3.fp ht)) _ (.tup (.inl upd_same) (dfAll_mono (same_upd (R3.fp ht)) (df_cut g2)))
    · cases ee
end
end DN

namespace DN
open PySem PySem.Spec L2 PySem.W
section
variable {X : Cx}
end
section
variable {X : Cx} {pins : List (Addr × Obj)} {σ : L2.St} {H : Hp} {s : Shared}
end
section
variable {X : Cx}
end
end DN

namespace DN
open PySem PySem.Spec L2

theorem kept1 {l : Addr} {s : Shared} {h' : Heap} {ob : Obj} (hk : ∀ b o, b ∉ [s.heap.objs.size] → (s.heap.push ob).get? b = some o → h'.get? b = some o) : ∀ b o, s.heap.get? b = some o → h'.get? b = some o := fun b o e =>
  hk b o (fun z => by
    have z' : b = s.heap.objs.size := by simpa using z
    exact absurd (Heap.lt_size e) (by rw [z']; exact Nat.lt_irrefl _)) (Heap.get?_push_of_some _ e)
theorem sumT_raw {prog : Program} {w : World} {A : Around} {E : Value → Shared → Prop} {s : Shared} {l : Addr} {its : List Value} {ns : List Int} {Q : Value → Shared → Prop} (hh : A.handled = none) (hl : s.heap.IsTuple l its.toArray) (hi : PyProof.Rows.IntsAre its ns)
    (h : ∀ h' tk t', (∀ b o, s.heap.get? b = some o → h'.get? b = some o) → Q (.int ns.sum t') { s with heap := h', toks := tk }) : wpAny (model prog w) A (call (.builtin "sum") [.ref l]) Q E s := by
  obtain ⟨xs, e⟩ := hi.allInts.items
  have hn : numsOf (intItems xs).toList = ns := by rw [← e]; exact hi.numsOf
  rw [nums_intItems] at hn
  rw [e] at hl
  have lt : l < s.heap.objs.size := by
    obtain ⟨_, z, _⟩ := hl
    exact Heap.lt_size z
  refine call_sum_walkG (wpAny_pyIter_tuple hl ?_)
  refine ⟨s.heap.objs.size, _, _, _, _, _, numAt xs, rfl, Walks.tuple (A := A.in1) hh s.heap.objs.size l (Nat.ne_of_lt lt) (intItems xs), ⟨⟨_, Heap.get?_push_size _ rfl, rfl, rfl⟩, ?_⟩, fun b hb => ?_, fun _ _ => intItems_at, fun h' tk t' hk => ?_⟩
  · obtain ⟨o, z, c⟩ := hl
    exact ⟨o, Heap.get?_push_of_some _ z, c⟩
  · show b < (s.heap.push _).objs.size
    rw [Heap.size_push]
    have hb' : b = s.heap.objs.size ∨ b = l := by simpa using hb
    rcases hb' with z | z
    · rw [z]; exact Nat.lt_succ_self _
    · rw [z]; exact Nat.lt_succ_of_lt lt
  · have z := h h' tk t' (kept1 (l := l) hk)
    have e2 : preSum (numAt xs) (intItems xs).size = ns.sum := by
      rw [preSum_eq, List.take_of_length_le (by simp [intItems]), hn]
    rw [e2]
    exact z
def rSumT (K : PySem.W.Frag) : List V → Hp → VK → Prop := fun vs H Q => ∃ (a : Addr) (ns : List Int), vs = [V.ref a] ∧ SqT K H a (ns.map V.int) ∧ Q (.int ns.sum) H
theorem cr_sumT {X : Cx} (hc : X.calm = true) : CallR X (.builtin "sum") (rSumT X.K) := by
  intro pins s σ H vs us Q I r h
  obtain ⟨a, ns, rfl, hs, q⟩ := h
  obtain ⟨its, rv, hl, _⟩ := I.tuple hs
  rw [Vals.ref1 r]
  exact sumT_raw (I.ok.hd hc) hl rv.ints fun h' tk t' hk => ⟨.int _, H, I.kept hk, ⟨_, rfl⟩, q⟩

section
variable {ι : Type} {Xs : ι → Cx} {P : Program} {w : World} {K : PySem.W.Frag} {mg : Str → Option Value} {base : Heap} {N : List Str} {k : Nat} {Wx : WX} {EI : EIx}
variable {a b c e : Expr} {f g h : Mo Dt} {p pos : Pos} {es : List Expr} {fa : Mo (List Dt)} {x : Str}

def CallOk (K : PySem.W.Frag) (r : List V → Hp → VK → Prop) (op : List Dt → Option Dt) : Prop :=
  ∀ F H vs ds z Q, Same F H → DfAll K F vs ds → op ds = some z → (∀ v F' H', Grown F H F' H' → Df K F' v z → Q v H') → r vs H Q
def callB (op : List Dt → Option Dt) (fa : Mo (List Dt)) : Mo Dt := bnd fa fun ds => opt (op ds)
theorem re_callB {t : TA} {r : List V → Hp → VK → Prop} {op : List Dt → Option Dt} (qa : RA K EI Wx t fa) (ho : CallOk K r op) : RE K EI Wx (tCB r t) (callB op fa) := by
  intro B F H ρ σ T Q R z
  refine qa B F H ρ σ T _ R (z.bnd fun ds ρ1 F1 H1 R1 S1 h1 vs dvs => ?_)
  obtain ⟨d, ed, h2⟩ := h1.opt
  exact ho F1 H1 vs ds d Q R1.fro dvs ed fun v F' H' G dv => h2 F' H' (R1.grown G) (G.same' R1.fro) v dv
theorem fe_callB {id : String} {r : List V → Hp → VK → Prop} {op : List Dt → Option Dt} (G : Good Xs P w K mg base N k Wx) (hc : ∀ i, CallR (Xs i) (.builtin id) r) (ho : CallOk K r op) (hm : mg x = none) (hv : bootBuiltins x = some (.builtin id)) (ha : FA Xs K EI Wx (e :: es) fa) (hg : ∀ i, Gl (Xs i) x := by intro _; rfl)
    (hn : x ≠ "__name__" := by decide) (hdb : (x == ("__debug__" : Str)) = false := by decide) (he : ∀ i, starEach (e :: es) (Xs i).env = (false, eval e (Xs i).env) :: starEach es (Xs i).env := by intro _; rfl) (hpl : ∀ i, (backTo pos (starEach es (Xs i).env)).any (·.1) = false := by intro _; rfl) :
    FE Xs K EI Wx (.Call (.Name x p) (e :: es) [] pos) (callB op fa) := by
  obtain ⟨t, pa, qa⟩ := ha
  exact ⟨_, fun i => pe_callB (hc i) (hg i) (by rw [G.hm i]; exact hm) hv (pa i) hn hdb (he i) (hpl i), re_callB qa ho⟩
theorem fe_callT {T : String} {r : List V → Hp → VK → Prop} {op : List Dt → Option Dt} (G : Good Xs P w K mg base N k Wx) (hc : ∀ i, CallR (Xs i) (.type T) r) (ho : CallOk K r op) (hm : mg x = none) (hv : bootBuiltins x = some (.type T)) (ha : FA Xs K EI Wx (e :: es) fa) (hg : ∀ i, Gl (Xs i) x := by intro _; rfl)
    (hn : x ≠ "__name__" := by decide) (hdb : (x == ("__debug__" : Str)) = false := by decide) (he : ∀ i, starEach (e :: es) (Xs i).env = (false, eval e (Xs i).env) :: starEach es (Xs i).env := by intro _; rfl) (hpl : ∀ i, (backTo pos (starEach es (Xs i).env)).any (·.1) = false := by intro _; rfl) :
    FE Xs K EI Wx (.Call (.Name x p) (e :: es) [] pos) (callB op fa) := by
  obtain ⟨t, pa, qa⟩ := ha
  exact ⟨_, fun i => pe_callTy (hc i) (hg i) (by rw [G.hm i]; exact hm) hv (pa i) hn hdb (he i) (hpl i), re_callB qa ho⟩

/-- len -/
def dLen : List Dt → Option Dt
  | [.list ds] => some (.int ds.length)
  | [.tuple ds] => some (.int ds.length)
  | [.dict [(.none, .list ds)]] => some (.int ds.length)
  | [.str x] => if x.length ≤ sizeLine then some (.int x.length) else none
  | _ => none
def rLen (K : PySem.W.Frag) : List V → Hp → VK → Prop := fun xs H Q => ∃ x n, xs = [x] ∧ LenV K x H n ∧ Q (.int n) H
theorem lenOk : CallOk K (rLen K) dLen := by
  intro F H vs ds z Q S dx hz q
  unfold dLen at hz
  split at hz
  · cases hz
    cases dx with
    | cons d1 d2 =>
      cases d2
      cases d1 with
      | lst h1 h2 => exact ⟨_, _, rfl, .inl ⟨_, .inl (.inl (S _ _ h1)), (dfAll_len h2).symm⟩, q _ F H .same (.int _)⟩
  · cases hz
    cases dx with
    | cons d1 d2 =>
      cases d2
      cases d1 with
      | tup h1 h2 => exact ⟨_, _, rfl, .inr ⟨_, same_seqT S h1, (dfAll_len h2).symm⟩, q _ F H .same (.int _)⟩
  · cases hz
    cases dx with
    | cons d1 d2 =>
      cases d2
      cases d1 with
      | frl h1 h2 => exact ⟨_, _, rfl, .inl ⟨_, S.seq h1, (dfAll_len h2).symm⟩, q _ F H .same (.int _)⟩
  · split at hz
    · rename_i hl
      cases hz
      cases dx with
      | cons d1 d2 =>
        cases d2
        cases d1
        exact ⟨_, _, rfl, ⟨hl, rfl⟩, q _ F H .same (.int _)⟩
    · cases hz
  · cases hz
theorem Good.lenR (G : Good Xs P w K mg base N k Wx) (i : ι) : CallR (Xs i) (.builtin "len") (rLen K) := by
  have z := @call_len (Xs i)
  rw [G.hK i] at z
  exact z
theorem fe_len (G : Good Xs P w K mg base N k Wx) (hm : mg "len" = none) (ha : FA Xs K EI Wx [e] fa) (hg : ∀ i, Gl (Xs i) "len" := by intro _; rfl) (he : ∀ i, starEach [e] (Xs i).env = (false, eval e (Xs i).env) :: starEach [] (Xs i).env := by intro _; rfl) : FE Xs K EI Wx (.Call (.Name "len" p) [e] [] pos) (callB dLen fa) :=
  fe_callB G G.lenR lenOk hm boot_len ha hg (by decide) (by decide) he
/-- len of a list that a slot owns -/
def oLen (i : Nat) : Mo Dt := fun ρ => match ρ[i]? with
  | some (some (.own (.lst ds))) => .ok (.int ds.length) ρ
  | some (some (.arg (.lst ds))) => .ok (.int ds.length) ρ
  | _ => .stuck
/-- lists of ints, of bools -/
def toInts : List Dt → Option (List Int)
  | [] => some []
  | .int i :: r => (toInts r).map (i :: ·)
  | _ => none
theorem toInts_eq : ∀ {ds : List Dt} {ns : List Int}, toInts ds = some ns → ds = ns.map PyData.int
  | [], ns, h => by cases h; rfl
  | .int i :: r, ns, h => by
    unfold toInts at h
    cases e : toInts r with
    | none => rw [e] at h; cases h
    | some m =>
      rw [e] at h
      cases h
      rw [toInts_eq e]
      rfl
  | .none :: _, _, h => by simp [toInts] at h
  | .bool _ :: _, _, h => by simp [toInts] at h
  | .str _ :: _, _, h => by simp [toInts] at h
  | .list _ :: _, _, h => by simp [toInts] at h
  | .tuple _ :: _, _, h => by simp [toInts] at h
  | .dict _ :: _, _, h => by simp [toInts] at h
def toBools : List Dt → Option (List Bool)
  | [] => some []
  | .bool i :: r => (toBools r).map (i :: ·)
  | _ => none
theorem toBools_eq : ∀ {ds : List Dt} {ns : List Bool}, toBools ds = some ns → ds = ns.map PyData.bool
  | [], ns, h => by cases h; rfl
  | .bool i :: r, ns, h => by
    unfold toBools at h
    cases e : toBools r with
    | none => rw [e] at h; cases h
    | some m =>
      rw [e] at h
      cases h
      rw [toBools_eq e]
      rfl
  | .none :: _, _, h => by simp [toBools] at h
  | .int _ :: _, _, h => by simp [toBools] at h
  | .str _ :: _, _, h => by simp [toBools] at h
  | .list _ :: _, _, h => by simp [toBools] at h
  | .tuple _ :: _, _, h => by simp [toBools] at h
  | .dict _ :: _, _, h => by simp [toBools] at h
theorem cr_or {X : Cx} {f : Value} {r r' : List V → Hp → VK → Prop} (h : CallR X f r) (h' : CallR X f r') : CallR X f (fun xs H Q => r xs H Q ∨ r' xs H Q) := h.or h'
def dSum : List Dt → Option Dt
  | [.list ds] => (toInts ds).map fun ns => .int ns.sum
  | [.tuple ds] => (toInts ds).map fun ns => .int ns.sum
  | _ => none
theorem sumOk : CallOk K (fun xs H Q => rSum K xs H Q ∨ rSumT K xs H Q) dSum := by
  intro F H vs ds z Q S dx hz q
  unfold dSum at hz
  split at hz
  · rename_i ds
    cases e : toInts ds with
    | none => rw [e] at hz; cases hz
    | some ns =>
      rw [e] at hz
      cases hz
      rw [toInts_eq e] at dx
      cases dx with
      | cons d1 d2 =>
        cases d2
        cases d1 with
        | lst h1 h2 =>
          rw [dfAll_ints _ _ h2] at h1
          exact .inl ⟨_, ns, rfl, .inl (.inl (S _ _ h1)), q _ F H .same (.int _)⟩
  · rename_i ds
    cases e : toInts ds with
    | none => rw [e] at hz; cases hz
    | some ns =>
      rw [e] at hz
      cases hz
      rw [toInts_eq e] at dx
      cases dx with
      | cons d1 d2 =>
        cases d2
        cases d1 with
        | tup h1 h2 =>
          rw [dfAll_ints _ _ h2] at h1
          exact .inr ⟨_, ns, rfl, same_seqT S h1, q _ F H .same (.int _)⟩
  · cases hz
theorem fe_sum (G : Good Xs P w K mg base N k Wx) (hm : mg "sum" = none) (ha : FA Xs K EI Wx [e] fa) (hg : ∀ i, Gl (Xs i) "sum" := by intro _; rfl) (he : ∀ i, starEach [e] (Xs i).env = (false, eval e (Xs i).env) :: starEach [] (Xs i).env := by intro _; rfl) : FE Xs K EI Wx (.Call (.Name "sum" p) [e] [] pos) (callB dSum fa) :=
  fe_callB G (fun i => by
    have z := cr_or (cr_sum (G.calm i)) (cr_sumT (G.calm i))
    rw [G.hK i] at z
    exact z) sumOk hm PyProof.Rows.boot_sum ha hg (by decide) (by decide) he
def dAll : List Dt → Option Dt
  | [.list ds] => (toBools ds).map fun ns => .bool (ns.all id)
  | _ => none
def dAny : List Dt → Option Dt
  | [.list ds] => (toBools ds).map fun ns => .bool (ns.any id)
  | _ => none
theorem allOk : CallOk K (rAll K) dAll := by
  intro F H vs ds z Q S dx hz q
  unfold dAll at hz
  split at hz
  · rename_i ds
    cases e : toBools ds with
    | none => rw [e] at hz; cases hz
    | some ns =>
      rw [e] at hz
      cases hz
      rw [toBools_eq e] at dx
      cases dx with
      | cons d1 d2 =>
        cases d2
        cases d1 with
        | lst h1 h2 =>
          rw [dfAll_bools _ _ h2] at h1
          exact ⟨_, ns, rfl, .inl (.inl (S _ _ h1)), q _ F H .same (.bl _)⟩
  · cases hz
theorem fe_all (G : Good Xs P w K mg base N k Wx) (hm : mg "all" = none) (ha : FA Xs K EI Wx [e] fa) (hg : ∀ i, Gl (Xs i) "all" := by intro _; rfl) (he : ∀ i, starEach [e] (Xs i).env = (false, eval e (Xs i).env) :: starEach [] (Xs i).env := by intro _; rfl) : FE Xs K EI Wx (.Call (.Name "all" p) [e] [] pos) (callB dAll fa) :=
  fe_callB G (fun i => by
    have z := cr_all (G.calm i)
    rw [G.hK i] at z
    exact z) allOk hm PyProof.Rows.boot_all ha hg (by decide) (by decide) he
/-- min, max of a list of ints; of two -/
def minL : List Int → Option Int
  | [] => none
  | n :: ns => some (ns.foldl min n)
def maxL : List Int → Option Int
  | [] => none
  | n :: ns => some (ns.foldl max n)
def dMin : List Dt → Option Dt
  | [.list ds] => (toInts ds).bind fun ns => (minL ns).map .int
  | [.int i, .int j] => some (.int (if j < i then j else i))
  | [.tuple ds] => (toInts ds).bind fun ns => (minL ns).map .int
  | _ => none
def dMax : List Dt → Option Dt
  | [.list ds] => (toInts ds).bind fun ns => (maxL ns).map .int
  | [.int i, .int j] => some (.int (if j > i then j else i))
  | [.tuple ds] => (toInts ds).bind fun ns => (maxL ns).map .int
  | _ => none
def dAbs : List Dt → Option Dt
  | [.int i] => some (.int (if i < 0 then -i else i))
  | _ => none
theorem fe_abs (G : Good Xs P w K mg base N k Wx) (hm : mg "abs" = none) (ha : FA Xs K EI Wx [e] fa) (hg : ∀ i, Gl (Xs i) "abs" := by intro _; rfl) (he : ∀ i, starEach [e] (Xs i).env = (false, eval e (Xs i).env) :: starEach [] (Xs i).env := by intro _; rfl) : FE Xs K EI Wx (.Call (.Name "abs" p) [e] [] pos) (callB dAbs fa) :=
  fe_callB G (fun _ => call_abs) (fun F H vs ds z Q S dx hz q => by
    unfold dAbs at hz
    split at hz
    · cases hz
      cases dx with
      | cons d1 d2 =>
        cases d2
        cases d1
        exact ⟨_, rfl, q _ F H .same (.int _)⟩
    · cases hz) hm PyProof.Rows.boot_abs ha hg (by decide) (by decide) he
def dInt : List Dt → Option Dt
  | [.int i] => some (.int i)
  | [.bool b] => some (.int (if b then 1 else 0))
  | _ => none
theorem fe_intc (G : Good Xs P w K mg base N k Wx) (hm : mg "int" = none) (ha : FA Xs K EI Wx [e] fa) (hg : ∀ i, Gl (Xs i) "int" := by intro _; rfl) (he : ∀ i, starEach [e] (Xs i).env = (false, eval e (Xs i).env) :: starEach [] (Xs i).env := by intro _; rfl) : FE Xs K EI Wx (.Call (.Name "int" p) [e] [] pos) (callB dInt fa) :=
  fe_callT G (fun _ => call_int1) (fun F H vs ds z Q S dx hz q => by
    unfold dInt at hz
    split at hz
    · cases hz
      cases dx with
      | cons d1 d2 =>
        cases d2
        cases d1
        exact .inl ⟨_, rfl, q _ F H .same (.int _)⟩
    · cases hz
      cases dx with
      | cons d1 d2 =>
        cases d2
        cases d1
        exact .inr ⟨_, rfl, q _ F H .same (.int _)⟩
    · cases hz) hm PyProof.Rows.boot_int ha hg (by decide) (by decide) he
/-- tuple(xs), list(xs) -/
def dTup : List Dt → Option Dt
  | [.list ds] => some (.tuple ds)
  | [.tuple ds] => some (.tuple ds)
  | _ => none
def rTupOf (K : PySem.W.Frag) : List V → Hp → VK → Prop := fun xs H Q => ∃ p ys, xs = [.ref p] ∧ ((SqL K H p ys ∧ ∀ l, H l = none → Q (.ref l) (upd H l (.tup ys))) ∨ (SqT K H p ys ∧ Q (.ref p) H))
theorem tupOk : CallOk K (rTupOf K) dTup := by
  intro F H vs ds z Q S dx hz q
  unfold dTup at hz
  split at hz
  · cases hz
    cases dx with
    | cons d1 d2 =>
      cases d2
      cases d1 with
      | lst h1 h2 => exact ⟨_, _, rfl, .inl ⟨.inl (.inl (S _ _ h1)), fun l hl => q _ _ _ (.new hl) (.tup (.inl upd_same) (dfAll_mono (same_upd (S.free hl)) h2))⟩⟩
  · cases hz
    cases dx with
    | cons d1 d2 =>
      cases d2
      cases d1 with
      | tup h1 h2 => exact ⟨_, _, rfl, .inr ⟨same_seqT S h1, q _ F H .same (.tup h1 h2)⟩⟩
  · cases hz
theorem fe_tuple (G : Good Xs P w K mg base N k Wx) (hm : mg "tuple" = none) (ha : FA Xs K EI Wx [e] fa) (hg : ∀ i, Gl (Xs i) "tuple" := by intro _; rfl) (he : ∀ i, starEach [e] (Xs i).env = (false, eval e (Xs i).env) :: starEach [] (Xs i).env := by intro _; rfl) : FE Xs K EI Wx (.Call (.Name "tuple" p) [e] [] pos) (callB dTup fa) :=
  fe_callT G (fun i => by
    have z := @call_tuple_of (Xs i)
    rw [G.hK i] at z
    exact z) tupOk hm PyProof.Rows.boot_tuple ha hg (by decide) (by decide) he
def lisM (f : Mo Dt) : Mo Ob := bnd f fun d => match d with
  | .list ds => ret (.lst ds)
  | .tuple ds => ret (.lst ds)
  | _ => bad
def repM (f g : Mo Dt) : Mo Ob := bnd f fun d => bnd g fun e => match d, e with
  | .list xs, .int n => if decide (-(2 ^ 63) ≤ n) && decide (n < 2 ^ 63) && decide (xs.length * n.toNat ≤ sizeLine) then ret (.lst (List.replicate n.toNat xs).flatten) else bad
  | _, _ => bad
def kindOf : Dt → String
  | .none => "NoneType"
  | .bool _ => "bool"
  | .int _ => "int"
  | .str _ => "str"
  | .list _ => "list"
  | .tuple _ => "tuple"
  | .dict ((.none, .list _) :: _) => "list"
  | .dict _ => "dict"
theorem df_tyX {F H : Hp} (S : Same F H) {v : V} {d : Dt} (h : Df K F v d) : TyX K H v (.type (kindOf d)) := by
  cases h with
  | non => exact .base .non
  | bl b => exact .base (.bl b)
  | int i => exact .base (.int i)
  | str x => exact .base (.str x)
  | lst h1 _ => exact .base (.lst (S _ _ h1))
  | tup h1 _ =>
    rcases h1 with h1 | ⟨⟨o, its, n, h1, h2, _⟩, _⟩
    · exact .base (.tup (S _ _ h1))
    · exact .kTuple h1 h2
  | dkt h1 _ _ => exact .base (.dT (S _ _ h1))
  | dkk h1 _ _ => exact .base (.dK (S _ _ h1))
  | frl h1 _ =>
    rcases h1 with (h1 | ⟨o, h1⟩) | ⟨o, its, n, h1, h2, _⟩
    · exact .base (.lst (S _ _ h1))
    · exact .base (.frz (S _ _ h1))
    · exact .kList h1 h2
/-- a dict whose keys are tuples -/
def isDt : Dt → Bool
  | .dict ((.bool true, _) :: _) => true
  | _ => false
theorem df_tyB {F H : Hp} (S : Same F H) {v : V} {d : Dt} (h : Df K F v d) (nd : isDt d = false) : TyB K H v (kindOf d) := by
  cases h with
  | non => exact .non
  | bl b => exact .bl b
  | int i => exact .int i
  | str x => exact .str x
  | lst h1 _ => exact .lst (.inl (.inl (S _ _ h1)))
  | tup h1 _ => exact .tup (same_seqT S h1)
  | dkt h1 _ _ => cases nd
  | dkk h1 _ _ => exact .dK (S _ _ h1)
  | frl h1 _ => exact .lst (S.seq h1)
def isiM (T : String) (f : Mo Dt) : Mo Dt := bnd f fun d => opt ((kitB (kindOf d) T).map .bool)
theorem fe_isi (G : Good Xs P w K mg base N k Wx) {T : String} {y : Str} {p0 : Pos} (hm : mg "isinstance" = none) (hy : mg y = none) (hv : bootBuiltins y = some (.type T)) (ha : FE Xs K EI Wx e f) (hg : ∀ i, Gl (Xs i) "isinstance" := by intro _; rfl) (hgy : ∀ i, Gl (Xs i) y := by intro _; rfl)
    (hn : y ≠ "__name__" := by decide) (hdb : (y == ("__debug__" : Str)) = false := by decide)
    (he : ∀ i, starEach [e, .Name y p0] (Xs i).env = (false, eval e (Xs i).env) :: starEach [.Name y p0] (Xs i).env := by intro _; rfl) (he2 : ∀ i, starEach [Expr.Name y p0] (Xs i).env = (false, eval (.Name y p0) (Xs i).env) :: starEach [] (Xs i).env := by intro _; rfl)
    (hpl : ∀ i, (backTo pos (starEach [Expr.Name y p0] (Xs i).env)).any (·.1) = false := by intro _; rfl) : FE Xs K EI Wx (.Call (.Name "isinstance" p) [e, .Name y p0] [] pos) (isiM T f) := by
  obtain ⟨t, pa, qa⟩ := ha
  refine ⟨tCB (rIsi K) (tCons t (tCons (tC (.ty T)) tNil)), fun i => ?_, fun B F H ρ σ T' Q R z => ?_⟩
  · have z := @call_isi (Xs i)
    rw [G.hK i] at z
    exact pe_callB z (hg i) (by rw [G.hm i]; exact hm) PyProof.Rows.boot_isinstance (pa_cons (pa i) (pa_cons (pe_bltn (hgy i) (by rw [G.hm i]; exact hy) hv (v := .ty T) rfl hn hdb) pa_nil (he2 i)) (he i)) (by decide) (by decide) (he i) (hpl i)
  · refine qa B F H ρ σ T' _ R (z.bnd fun d ρ1 F1 H1 R1 S1 h1 x dx => ?_)
    obtain ⟨r, er, h2⟩ := h1.opt
    cases ek : kitB (kindOf d) T with
    | none => rw [ek] at er; cases er
    | some b =>
      rw [ek] at er
      cases er
      exact ⟨x, .ty T, _, _, b, rfl, .ty T, df_tyX R1.fro dx, kit_ty ek, h2 F1 H1 R1 (Same.refl _) _ (.bl _)⟩
/-- isinstance(x, (S, T)) -/
def isi2M (S T : String) (f : Mo Dt) : Mo Dt := bnd f fun d => opt ((kitB (kindOf d) S).bind fun b => (kitB (kindOf d) T).map fun c => .bool (b || c))
theorem fe_isi2 (G : Good Xs P w K mg base N k Wx) {S T : String} {x y : Str} {p0 p1 : Pos} {k2 p2} (hm : mg "isinstance" = none) (hx : mg x = none) (hvx : bootBuiltins x = some (.type S)) (hy : mg y = none) (hv : bootBuiltins y = some (.type T)) (ha : FE Xs K EI Wx e f) (hg : ∀ i, Gl (Xs i) "isinstance" := by intro _; rfl) (hgx : ∀ i, Gl (Xs i) x := by intro _; rfl) (hgy : ∀ i, Gl (Xs i) y := by intro _; rfl)
    (hnx : x ≠ "__name__" := by decide) (hdx : (x == ("__debug__" : Str)) = false := by decide) (hn : y ≠ "__name__" := by decide) (hdb : (y == ("__debug__" : Str)) = false := by decide)
    (he : ∀ i, starEach [e, .Tuple [.Name x p0, .Name y p1] k2 p2] (Xs i).env = (false, eval e (Xs i).env) :: starEach [.Tuple [.Name x p0, .Name y p1] k2 p2] (Xs i).env := by intro _; rfl)
    (he1 : ∀ i, starEach [Expr.Tuple [.Name x p0, .Name y p1] k2 p2] (Xs i).env = (false, eval (.Tuple [.Name x p0, .Name y p1] k2 p2) (Xs i).env) :: starEach [] (Xs i).env := by intro _; rfl)
    (he2 : ∀ i, starEach [Expr.Name x p0, Expr.Name y p1] (Xs i).env = (false, eval (.Name x p0) (Xs i).env) :: starEach [.Name y p1] (Xs i).env := by intro _; rfl)
    (he3 : ∀ i, starEach [Expr.Name y p1] (Xs i).env = (false, eval (.Name y p1) (Xs i).env) :: starEach [] (Xs i).env := by intro _; rfl)
    (hpl : ∀ i, (backTo pos (starEach [Expr.Tuple [.Name x p0, .Name y p1] k2 p2] (Xs i).env)).any (·.1) = false := by intro _; rfl) : FE Xs K EI Wx (.Call (.Name "isinstance" p) [e, .Tuple [.Name x p0, .Name y p1] k2 p2] [] pos) (isi2M S T f) := by
  obtain ⟨t, pa, qa⟩ := ha
  refine ⟨tCB (rIsiT K) (tCons t (tCons (tTup (tCons (tC (.ty S)) (tCons (tC (.ty T)) tNil))) tNil)), fun i => ?_, fun B F H ρ σ T' Q R z => ?_⟩
  · have z := @call_isiT (Xs i)
    rw [G.hK i] at z
    exact pe_callB z (hg i) (by rw [G.hm i]; exact hm) PyProof.Rows.boot_isinstance (pa_cons (pa i) (pa_cons (pe_tup (pa_cons (pe_bltn (hgx i) (by rw [G.hm i]; exact hx) hvx (v := .ty S) rfl hnx hdx) (pa_cons (pe_bltn (hgy i) (by rw [G.hm i]; exact hy) hv (v := .ty T) rfl hn hdb) pa_nil (he3 i)) (he2 i))) pa_nil (he1 i)) (he i)) (by decide) (by decide) (he i) (hpl i)
  · refine qa B F H ρ σ T' _ R (z.bnd fun d ρ1 F1 H1 R1 S1 h1 v dx => ?_)
    obtain ⟨r, er, h2⟩ := h1.opt
    cases ek : kitB (kindOf d) S with
    | none => rw [ek] at er; cases er
    | some b1 =>
      cases ek2 : kitB (kindOf d) T with
      | none => rw [ek, ek2] at er; cases er
      | some b2 =>
        rw [ek, ek2] at er
        cases er
        refine ⟨by show 2 ≤ sizeLine; decide, fun tp htp => ?_⟩
        have S2 : Same F1 (upd F1 tp (.tup [.ty S, .ty T])) := same_upd (R1.fp htp)
        have R2 := R1.new (ho := .tup [.ty S, .ty T]) htp
        refine ⟨v, tp, _, _, [.type S, .type T], b1 || b2, rfl, upd_same, .cons (.ty S) (.cons (.ty T) .nil), df_tyX R2.fro (df_mono S2 dx), ?_, h2 _ _ R2 S2 _ (.bl _)⟩
        refine kitAny_cons (kit_ty ek) (fun q => ?_) (fun q => by rw [q]; rfl)
        rw [q, Bool.false_or]
        exact kitAny_cons (kit_ty ek2) (fun q2 => by rw [q2]; exact kitAny_nil) (fun q2 => q2)
/-- type(x) is T -/
def typM (T : String) (f : Mo Dt) : Mo Dt := bnd f fun d => if isDt d = true then bad else ret (.bool (decide (kindOf d = T)))
theorem fe_typ (G : Good Xs P w K mg base N k Wx) {T : String} {y : Str} {p0 pc : Pos} (hm : mg "type" = none) (hy : mg y = none) (hv : bootBuiltins y = some (.type T)) (ha : FE Xs K EI Wx e f) (hg : ∀ i, Gl (Xs i) "type" := by intro _; rfl) (hgy : ∀ i, Gl (Xs i) y := by intro _; rfl)
    (hn : y ≠ "__name__" := by decide) (hdb : (y == ("__debug__" : Str)) = false := by decide)
    (he : ∀ i, starEach [e] (Xs i).env = (false, eval e (Xs i).env) :: starEach [] (Xs i).env := by intro _; rfl) : FE Xs K EI Wx (.Compare (.Call (.Name "type" p) [e] [] pc) [.Is] [.Name y p0] pos) (typM T f) := by
  obtain ⟨t, pa, qa⟩ := ha
  refine ⟨tOp (fun x y H Q => ∃ a b, x = .ty a ∧ y = .ty b ∧ Q (.bl (decide (a = b))) H) (tCB (rTyp K) (tCons t tNil)) (tC (.ty T)), fun i => ?_, fun B F H ρ σ T' Q R z => ?_⟩
  · have z := @call_type1 (Xs i)
    rw [G.hK i] at z
    exact pe_cmpR op_isTyB (pe_callTy z (hg i) (by rw [G.hm i]; exact hm) PyProof.Rows.boot_type (pa_cons (pa i) pa_nil (he i)) (by decide) (by decide) (he i)) (pe_bltn (hgy i) (by rw [G.hm i]; exact hy) hv (v := .ty T) rfl hn hdb) (nomark _)
  · refine qa B F H ρ σ T' _ R (z.bnd fun d ρ1 F1 H1 R1 S1 h1 x dx => ?_)
    by_cases nd : isDt d = true
    · rw [if_pos nd] at h1
      exact h1.elim
    · rw [if_neg nd] at h1
      exact ⟨x, kindOf d, rfl, df_tyB R1.fro dx (by simpa using nd), _, _, rfl, rfl, h1 F1 H1 R1 (Same.refl _) _ (.bl _)⟩
end
end DN

namespace DN
open PySem PySem.Spec L2

inductive FOut where
  | ok (d : Dt) (rs : List Sv)
  | exn (x : Exn) (rs : List Sv)
  | stuck
abbrev Fn := List Sv → FOut
def FPost (K : PySem.W.Frag) (EI : EIx) (B : Bs) (F : Hp) (vs : List V) (Q : VK) (E : XK) : FOut → Prop
  | .ok d rs => ∀ v F' H', Rel K B F' H' (rs.map some) (vs.map some) [] → Same F F' → Df K F' v d → Q v H'
  | .exn x rs => ∀ c dd F' H', Rel K B F' H' (rs.map some) (vs.map some) [] → EI x c dd H' → E c dd H'
  | .stuck => False
/-- a def's promise: it hands back what fn says -/
def spD (K : PySem.W.Frag) (EI : EIx) (n : Nat) (fn : Fn) : Sp := fun vs H Q E => ∃ (F : Hp) (rs : List Sv) (W : List (Nat × Addr)),
  vs.length = n ∧ (∀ (i : Nat) (o : Ob), rs[i]? ≠ some (.own o)) ∧ Rel K ⟨H, F, W⟩ F H (rs.map some) (vs.map some) [] ∧ FPost K EI ⟨H, F, W⟩ F vs Q E (fn rs)

section
variable {ι : Type} {Xs : ι → Cx} {P : Program} {w : World} {K : PySem.W.Frag} {mg : Str → Option Value} {base : Heap} {N : List Str} {k : Nat} {Wx : WX} {EI : EIx}
variable {a b c e : Expr} {f g h : Mo Dt} {p pos : Pos} {es : List Expr} {fa : Mo (List Dt)} {x : Str}

theorem map_val {ds : List Dt} {i : Nat} {z : Option Sv} (h : ((ds.map Sv.val).map some)[i]? = some z) : ∃ d, ds[i]? = some d ∧ z = some (.val d) := by
  rw [List.getElem?_map, List.getElem?_map] at h
  cases e : ds[i]? with
  | none => rw [e] at h; cases h
  | some d => rw [e] at h; cases h; exact ⟨d, rfl, rfl⟩
theorem no_own {ds : List Dt} {i : Nat} {o : Ob} (h : Own ((ds.map Sv.val).map some) i o) : False := by
  rcases h with h | h
  · obtain ⟨d, _, z⟩ := map_val h; cases z
  · obtain ⟨d, _, z⟩ := map_val h; cases z

theorem noown (ds : List Dt) : ∀ (i : Nat) (o : Ob), (ds.map Sv.val)[i]? ≠ some (.own o) := fun i o z => by
  rw [List.getElem?_map] at z
  cases e : ds[i]? with
  | none => rw [e] at z; cases z
  | some d => rw [e] at z; cases z
theorem noown1 (q : Ob) (ds : List Dt) : ∀ (i : Nat) (o : Ob), (Sv.arg q :: ds.map Sv.val)[i]? ≠ some (.own o) := fun i o z => by
  cases i with
  | zero => simp at z
  | succ i => exact noown ds i o (by simpa using z)
/-- the state a callee starts from: data alone -/
theorem Rel.into {B : Bs} {F H : Hp} {ρ : Rh} {σ : St} {T : List (Ob × Addr)} (R : Rel K B F H ρ σ T) {vs : List V} {ds : List Dt} (d : DfAll K F vs ds) : Rel K ⟨H, F, []⟩ F H ((ds.map Sv.val).map some) (vs.map some) [] := by
  refine ⟨by rw [List.length_map, List.length_map, List.length_map]; exact dfAll_len d, fun i z e => ?_, fun i o e => (no_own e).elim, fun i j o q adr e => (no_own e).elim, fun x hx => (List.not_mem_nil hx).elim, List.nodup_nil, fun i adr => ?_, R.fro, Same.refl _, fun b o e _ => e, fun b o e => ⟨o, e⟩, fun b o e => .inl ⟨o, e⟩⟩
  · obtain ⟨d', e1, e2⟩ := map_val e
    cases e2
    obtain ⟨v, g1, g2⟩ := dfAll_get d e1
    exact ⟨v, by rw [List.getElem?_map, g1]; rfl, g2⟩
  · constructor
    · intro z; exact (List.not_mem_nil z).elim
    · rintro ⟨o, z, _⟩; exact (no_own (.inr z)).elim
/-- .. the first argument an owned thing of the caller's -/
theorem Rel.into1 {B : Bs} {F H : Hp} {ρ : Rh} {σ : St} {T : List (Ob × Addr)} (R : Rel K B F H ρ σ T) {vs : List V} {ds : List Dt} (d : DfAll K F vs ds) {i : Nat} {o : Ob} {adr : Addr} (ow : Own ρ i o) (s : σ[i]? = some (some (.ref adr))) :
    Rel K ⟨H, F, [(0, adr)]⟩ F H ((Sv.arg o :: ds.map Sv.val).map some) ((V.ref adr :: vs).map some) [] := by
  obtain ⟨a', s', h1, h2, h3⟩ := R.own i o ow
  rw [s] at s'
  cases s'
  have up : ∀ {j : Nat} {q : Ob}, Own ((Sv.arg o :: ds.map Sv.val).map some) j q → j = 0 ∧ q = o := fun {j q} z => by
    cases j with
    | zero => rcases z with z | z <;> (simp at z); exact ⟨rfl, z.symm⟩
    | succ j => exact (no_own (ds := ds) (i := j) (o := q) (by rcases z with z | z; exact .inl (by simpa using z); exact .inr (by simpa using z))).elim
  refine ⟨by simp [dfAll_len d], fun j z e => ?_, fun j q e => ?_, fun j l q r adr' e1 e2 _ _ => (up e1).1.trans (up e2).1.symm, fun x hx => (List.not_mem_nil hx).elim, List.nodup_nil, fun j adr' => ?_, R.fro, Same.refl _, fun b o e _ => e, fun b o e => ⟨o, e⟩, fun b o e => .inl ⟨o, e⟩⟩
  · cases j with
    | zero => simp at e
    | succ j =>
      obtain ⟨d', e1, e2⟩ := map_val (ds := ds) (i := j) (z := some (.val z)) (by simpa using e)
      cases e2
      obtain ⟨v, g1, g2⟩ := dfAll_get d e1
      exact ⟨v, by simp [g1], g2⟩
  · obtain ⟨e1, e2⟩ := up e
    subst e1; subst e2
    exact ⟨adr, rfl, h1, h2, .inr (List.mem_singleton.mpr rfl)⟩
  · constructor
    · intro z
      have z' := List.mem_singleton.mp z
      cases z'
      exact ⟨o, rfl, rfl⟩
    · rintro ⟨q, z1, z2⟩
      obtain ⟨e1, e2⟩ := up (.inr z1)
      subst e1
      have z3 : adr = adr' := by simpa using z2
      rw [z3]
      exact List.mem_singleton.mpr rfl
/-- behind a callee that had data alone -/
theorem Rel.back {B : Bs} {F H F' H' : Hp} {ρ : Rh} {σ : St} {T : List (Ob × Addr)} {ρ' : Rh} {σ' : St} (R : Rel K B F H ρ σ T) (C : Rel K ⟨H, F, []⟩ F' H' ρ' σ' []) : Rel K B F' H' ρ σ T := by
  have S : Same F F' := C.f0
  have keep : ∀ b o, H b = some o → H' b = some o := fun b o e => C.frm b o e fun i z => List.not_mem_nil z
  have fr : ∀ b o, H b = some o → ¬ FzO o → F b = none → F' b = none := fun b o e nt n => by
    cases z : F' b with
    | none => rfl
    | some o' =>
      rcases C.fnw b o' z with ⟨o2, q⟩ | q | q
      · have q' : F b = some o2 := q
        rw [n] at q'; cases q'
      · have q' : H b = none := q
        rw [e] at q'; cases q'
      · have y := C.fro _ _ z
        rw [keep _ _ e] at y
        cases y
        exact (nt q).elim
  refine ⟨R.len, fun i d e => ?_, fun i o e => ?_, R.dis, fun y hy => ?_, R.tnd, R.args, C.fro, R.f0.trans S, fun b o e hw => keep _ _ (R.frm b o e hw), fun b o e => ?_, fun b o e => ?_⟩
  · obtain ⟨v, h1, h2⟩ := R.val i d e
    exact ⟨v, h1, df_mono S h2⟩
  · obtain ⟨adr, h1, ⟨ho, h2, h3⟩, h4, h5⟩ := R.own i o e
    exact ⟨adr, h1, ⟨ho, keep _ _ h2, h3.mono S⟩, fr _ _ h2 h3.nfz h4, h5⟩
  · obtain ⟨⟨ho, h2, h3⟩, h4, h5, h6⟩ := R.tmp y hy
    exact ⟨⟨ho, keep _ _ h2, h3.mono S⟩, fr _ _ h2 h3.nfz h4, h5, h6⟩
  · obtain ⟨o', q⟩ := R.dom b o e
    exact ⟨o', keep _ _ q⟩
  · rcases C.fnw b o e with ⟨o2, q⟩ | q | q
    · have q' : F b = some o2 := q
      have := S _ _ q'
      rw [e] at this
      cases this
      exact R.fnw b o q'
    · exact .inr (.inl (R.dom' q))
    · exact .inr (.inr q)
/-- .. whose first argument was an owned thing -/
theorem Rel.back1 {B : Bs} {F H F' H' : Hp} {ρ : Rh} {σ : St} {T : List (Ob × Addr)} {ρ' : Rh} {σ' : St} {i : Nat} {o o' : Ob} {adr : Addr} {x : Sv} (R : Rel K B F H ρ σ T) (s : σ[i]? = some (some (.ref adr)))
    (C : Rel K ⟨H, F, [(0, adr)]⟩ F' H' (some (.arg o') :: ρ') (some (.ref adr) :: σ') []) (hx : (ρ[i]? = some (some (.own o)) ∧ x = .own o') ∨ (ρ[i]? = some (some (.arg o)) ∧ x = .arg o')) : Rel K B F' H' (ρ.set i (some x)) σ T := by
  have S : Same F F' := C.f0
  have ow : Own ρ i o := hx.elim (fun z => .inl z.1) fun z => .inr z.1
  obtain ⟨a0, s0, ⟨ho0, g2, g3⟩, g4, g5⟩ := R.own i o ow
  rw [s] at s0
  cases s0
  obtain ⟨a1, c1, ⟨ho1, c2, c3⟩, c4, c5⟩ := C.own 0 o' (.inr rfl)
  have c1' : adr = a1 := by simpa using c1
  subst c1'
  have keep : ∀ b q, b ≠ adr → H b = some q → H' b = some q := fun b q n e => C.frm b q e fun j z => n (by
    have z' := List.mem_singleton.mp z
    cases z'
    rfl)
  have fr : ∀ b q, b ≠ adr → H b = some q → ¬ FzO q → F b = none → F' b = none := fun b q nb e nt n => by
    cases z : F' b with
    | none => rfl
    | some q' =>
      rcases C.fnw b q' z with ⟨o2, y⟩ | y | y
      · have y' : F b = some o2 := y
        rw [n] at y'; cases y'
      · have y' : H b = none := y
        rw [e] at y'; cases y'
      · have y2 := C.fro _ _ z
        rw [keep _ _ nb e] at y2
        cases y2
        exact (nt y).elim
  have hl : i < ρ.length := by
    rcases hx with ⟨z, _⟩ | ⟨z, _⟩ <;> exact (List.getElem?_eq_some_iff.mp z).1
  have back : ∀ {j : Nat} {q : Ob}, Own (ρ.set i (some x)) j q → ∃ q', Own ρ j q' ∧ (i ≠ j → q' = q) ∧ (i = j → q = o') := fun {j q} e => by
    by_cases hj : i = j
    · subst hj
      refine ⟨o, ow, fun z => (z rfl).elim, fun _ => ?_⟩
      rcases hx with ⟨_, z⟩ | ⟨_, z⟩ <;> (subst z; rcases own_set_self e with y | y <;> cases y; rfl)
    · exact ⟨q, own_set_ne hj e, fun _ => rfl, fun z => (hj z).elim⟩
  refine ⟨by rw [List.length_set]; exact R.len, fun j d e => ?_, fun j q e => ?_, fun j l q r b e1 e2 => ?_, fun y hy => ?_, R.tnd, fun j b => ?_, C.fro, R.f0.trans S, fun b q e hw => ?_, fun b q e => ?_, fun b q e => ?_⟩
  · by_cases hj : i = j
    · subst hj
      rw [List.getElem?_set_self hl] at e
      rcases hx with ⟨_, z⟩ | ⟨_, z⟩ <;> (subst z; cases e)
    · rw [List.getElem?_set_ne hj] at e
      obtain ⟨v, h1, h2⟩ := R.val j d e
      exact ⟨v, h1, df_mono S h2⟩
  · obtain ⟨q', e', f1, f2⟩ := back e
    by_cases hj : i = j
    · subst hj
      rw [f2 rfl]
      exact ⟨adr, s, ⟨ho1, c2, c3⟩, c4, g5⟩
    · have eq := f1 hj
      subst eq
      obtain ⟨b, k1, ⟨w', k2, k3⟩, k4, k5⟩ := R.own j q' e'
      have nb : b ≠ adr := fun z => hj (R.dis i j _ _ adr ow e' s (by rw [k1, z]))
      exact ⟨b, k1, ⟨w', keep _ _ nb k2, k3.mono S⟩, fr _ _ nb k2 k3.nfz k4, k5⟩
  · obtain ⟨q1, e1', _⟩ := back e1
    obtain ⟨q2, e2', _⟩ := back e2
    exact R.dis j l q1 q2 b e1' e2'
  · obtain ⟨⟨w', k2, k3⟩, k4, k5, k6⟩ := R.tmp y hy
    have nb : y.2 ≠ adr := fun z => k6 i o ow (by rw [s, z])
    refine ⟨⟨w', keep _ _ nb k2, k3.mono S⟩, fr _ _ nb k2 k3.nfz k4, k5, fun j q e => ?_⟩
    obtain ⟨q', e', _⟩ := back e
    exact k6 j q' e'
  · rw [R.args j b]
    by_cases hj : i = j
    · subst hj
      rw [List.getElem?_set_self hl]
      rcases hx with ⟨z, zx⟩ | ⟨z, zx⟩
      · rw [z, zx]
        constructor <;> (rintro ⟨q, y, _⟩; cases y)
      · rw [z, zx]
        constructor
        · rintro ⟨q, _, y⟩; exact ⟨_, rfl, y⟩
        · rintro ⟨q, _, y⟩; exact ⟨_, rfl, y⟩
    · rw [List.getElem?_set_ne hj]
  · have h1 := R.frm b q e hw
    have nb : b ≠ adr := fun z => by
      subst z
      rcases g5 with g5 | g5
      · rw [g5] at e; cases e
      · exact hw i g5
    exact keep _ _ nb h1
  · by_cases z : b = adr
    · exact ⟨ho1, by rw [z]; exact c2⟩
    · obtain ⟨o2, y⟩ := R.dom b q e
      exact ⟨o2, keep _ _ z y⟩
  · rcases C.fnw b q e with ⟨o2, y⟩ | y | y
    · have y' : F b = some o2 := y
      have := S _ _ y'
      rw [e] at this
      cases this
      exact R.fnw b q y'
    · exact .inr (.inl (R.dom' y))
    · exact .inr (.inr y)

def callM (fn : Fn) (fa : Mo (List Dt)) : Mo Dt := bnd fa fun ds => fun ρ => match fn (ds.map .val) with
  | .ok d _ => .ok d ρ
  | .exn x _ => .exn x ρ
  | .stuck => .stuck
theorem fe_call (G : Good Xs P w K mg base N k Wx) {j n : Nat} {fn : Fn} {f0 : Addr} {fd : FuncData} {ps : List Str} (FN : FnOk P w K mg base (L2.CX P w) j f0 fd ps (spD K EI n fn)) (hj : j ≤ k) (hm : mg x = some (.ref f0)) (hk : PySem.W.keepIn K (.ref f0) = true) (hb : Binds K fd ps [])
    (ha : FA Xs K EI Wx (e :: es) fa) (hn : es.length + 1 = n) (hg : ∀ i, Gl (Xs i) x := by intro _; rfl) (hdb : (x == ("__debug__" : Str)) = false := by decide) (he : ∀ i, starEach (e :: es) (Xs i).env = (false, eval e (Xs i).env) :: starEach es (Xs i).env := by intro _; rfl) (hpl : ∀ i, (backTo pos (starEach es (Xs i).env)).any (·.1) = false := by intro _; rfl)
    (hz : ∀ ρ ds ρ', fa ρ = .ok ds ρ' → ds.length = n) : FE Xs K EI Wx (.Call (.Name x p) (e :: es) [] pos) (callM fn fa) := by
  obtain ⟨t, pa, qa⟩ := ha
  refine ⟨tCallS (spD K EI n fn) (WE Wx) t, fun i => ?_, fun B F H ρ σ T Q R z => ?_⟩
  · have F1 := G.fn (FN.mono hj) i
    exact pe_callS F1 (G.room i) (hg i) (by rw [G.hm i]; exact hm) (by rw [G.hK i]; exact hk) (by rw [G.hK i]; exact hb) (fun σ => G.tk i σ) (pa i) hdb (he i) (hpl i)
  · have hlen : ∀ ds ρ1, fa ρ = .ok ds ρ1 → ds.length = n := fun ds ρ1 => hz ρ ds ρ1
    unfold callM at z
    have z2 : Post K EI Wx B σ T F (fun ds F1 H1 => ∃ ρ1, fa ρ = .ok ds ρ1 ∧ Rel K B F1 H1 ρ1 σ T ∧ Same F F1 ∧ Post K EI Wx B σ T F1 (fun d F' H' => ∀ v, Df K F' v d → Q v H') ((match fn (ds.map .val) with | .ok d _ => .ok d ρ1 | .exn x _ => .exn x ρ1 | .stuck => .stuck : Out Dt))) (fa ρ) := by
      unfold DN.bnd at z
      cases ef : fa ρ with
      | ok ds ρ1 =>
        rw [ef] at z
        exact fun F' H' R' S' => ⟨ρ1, rfl, R', S', Post.le S' z⟩
      | exn y ρ1 => rw [ef] at z; exact z
      | stuck => rw [ef] at z; exact z
    refine qa B F H ρ σ T _ R ?_
    cases ef : fa ρ with
    | stuck => rw [ef] at z2; exact z2
    | exn y ρ1 => rw [ef] at z2; exact z2
    | ok ds ρ1 =>
      rw [ef] at z2
      intro F1 H1 R1 S1 vs dvs
      obtain ⟨ρ2, e2, R2, S2, z3⟩ := z2 F1 H1 R1 S1
      cases e2
      refine ⟨F1, ds.map Sv.val, [], by rw [dfAll_len dvs]; exact hlen ds ρ1 ef, noown ds, R1.into dvs, ?_⟩
      cases er : fn (ds.map .val) with
      | ok d rs =>
        rw [er] at z3
        intro v F' H' C S' dv
        exact z3 F' H' (R1.back C) S' v dv
      | exn y rs =>
        rw [er] at z3
        intro cc dd F' H' C q
        exact z3 cc dd F' H' (R1.back C) C.f0 q
      | stuck => rw [er] at z3; exact z3
def putR (i : Nat) (o' : Ob) : Rh → Rh := fun ρ => match ρ[i]? with
  | some (some (.own _)) => ρ.set i (some (.own o'))
  | some (some (.arg _)) => ρ.set i (some (.arg o'))
  | _ => ρ
def getO (i : Nat) : Rh → Option Ob := fun ρ => match ρ[i]? with
  | some (some (.own o)) => some o
  | some (some (.arg o)) => some o
  | _ => none
/-- f(name, ..): the name's thing is handed over, to be changed -/
def callR (fn : Fn) (i : Nat) (fa : Mo (List Dt)) : Mo Dt := fun ρ0 => match getO i ρ0 with
  | none => .stuck
  | some _ => bnd fa (fun ds => fun ρ => match getO i ρ with
    | some o => (match fn (.arg o :: ds.map .val) with
      | .ok d (.arg o' :: _) => .ok d (putR i o' ρ)
      | .exn x (.arg o' :: _) => .exn x (putR i o' ρ)
      | _ => .stuck)
    | none => .stuck) ρ0
theorem getO_own {ρ : Rh} {i : Nat} {o : Ob} (h : getO i ρ = some o) : Own ρ i o := by
  unfold getO at h
  split at h
  · cases h; exact .inl ‹_›
  · cases h; exact .inr ‹_›
  · cases h
theorem putR_cases {ρ : Rh} {i : Nat} {o o' : Ob} (h : getO i ρ = some o) : ∃ x, putR i o' ρ = ρ.set i (some x) ∧ ((ρ[i]? = some (some (.own o)) ∧ x = .own o') ∨ (ρ[i]? = some (some (.arg o)) ∧ x = .arg o')) := by
  unfold getO at h
  split at h
  · rename_i q hq
    cases h
    exact ⟨.own o', by unfold putR; rw [hq], .inl ⟨hq, rfl⟩⟩
  · rename_i q hq
    cases h
    exact ⟨.arg o', by unfold putR; rw [hq], .inr ⟨hq, rfl⟩⟩
  · cases h
theorem fe_callR (G : Good Xs P w K mg base N k Wx) {j n : Nat} {fn : Fn} {f0 : Addr} {fd : FuncData} {ps : List Str} (FN : FnOk P w K mg base (L2.CX P w) j f0 fd ps (spD K EI n fn)) (hj : j ≤ k) (hm : mg x = some (.ref f0)) (hk : PySem.W.keepIn K (.ref f0) = true) (hb : Binds K fd ps [])
    (i : Nat) {y : Str} {p0 : Pos} (ha : FA Xs K EI Wx es fa) (hn : es.length + 1 = n) (hN : N[i]? = some y := by rfl) (hv : ∀ j, Vis (Xs j).env.scope y := by intro _; first | exact Or.inl rfl | exact Or.inr (Or.inl rfl) | exact Or.inr (Or.inr rfl))
    (h1 : (y == ("__debug__" : Str)) = false := by decide) (h2 : (y == ("__classdict__" : Str)) = false := by decide)
    (hg : ∀ i, Gl (Xs i) x := by intro _; rfl) (hdb : (x == ("__debug__" : Str)) = false := by decide) (he : ∀ i, starEach (Expr.Name y p0 :: es) (Xs i).env = (false, eval (.Name y p0) (Xs i).env) :: starEach es (Xs i).env := by intro _; rfl) (hpl : ∀ i, (backTo pos (starEach es (Xs i).env)).any (·.1) = false := by intro _; rfl)
    (hz : ∀ ρ ds ρ', fa ρ = .ok ds ρ' → ds.length + 1 = n) : FE Xs K EI Wx (.Call (.Name x p) (.Name y p0 :: es) [] pos) (callR fn i fa) := by
  obtain ⟨t, pa, qa⟩ := ha
  refine ⟨tCallS (spD K EI n fn) (WE Wx) (tCons (tVar i) t), fun l => ?_, fun B F H ρ σ T Q R z => ?_⟩
  · have F1 := G.fn (FN.mono hj) l
    exact pe_callS F1 (G.room l) (hg l) (by rw [G.hm l]; exact hm) (by rw [G.hK l]; exact hk) (by rw [G.hK l]; exact hb) (fun σ => G.tk l σ) (pa_cons (pe_var (i := i) (by rw [G.hN l]; exact hN) (hv l) h1 h2) (pa l) (he l)) hdb (he l) (hpl l)
  · unfold callR at z
    cases e0 : getO i ρ with
    | none => rw [e0] at z; exact z.elim
    | some o0 =>
      rw [e0] at z
      obtain ⟨adr, s0, _⟩ := R.own i o0 (getO_own e0)
      refine ⟨.ref adr, s0, qa B F H ρ σ T _ R ?_⟩
      dsimp only at z
      unfold DN.bnd at z
      cases ef : fa ρ with
      | stuck => rw [ef] at z; exact z
      | exn y ρ1 => rw [ef] at z; exact z
      | ok ds ρ1 =>
        rw [ef] at z
        intro F1 H1 R1 S1 vs dvs
        have z3 := Post.le S1 z
        dsimp only at z3
        cases e1 : getO i ρ1 with
        | none => rw [e1] at z3; exact z3.elim
        | some o =>
          rw [e1] at z3
          dsimp only at z3
          refine ⟨F1, .arg o :: ds.map Sv.val, [(0, adr)], by rw [List.length_cons, dfAll_len dvs]; exact hz ρ ds ρ1 ef, noown1 o ds, R1.into1 dvs (getO_own e1) s0, ?_⟩
          cases er : fn (.arg o :: ds.map .val) with
          | stuck => rw [er] at z3; exact z3
          | ok d rs =>
            rw [er] at z3
            cases rs with
            | nil => exact z3.elim
            | cons r rs =>
              cases r with
              | val _ => exact z3.elim
              | own _ => exact z3.elim
              | arg o' =>
                intro v F' H' C S' dv
                obtain ⟨q, eq, hq⟩ := putR_cases (o' := o') e1
                dsimp only at z3
                rw [eq] at z3
                exact z3 F' H' (R1.back1 s0 C hq) S' v dv
          | exn d rs =>
            rw [er] at z3
            cases rs with
            | nil => exact z3.elim
            | cons r rs =>
              cases r with
              | val _ => exact z3.elim
              | own _ => exact z3.elim
              | arg o' =>
                intro cc dd F' H' C qq
                obtain ⟨q, eq, hq⟩ := putR_cases (o' := o') e1
                dsimp only at z3
                rw [eq] at z3
                exact z3 cc dd F' H' (R1.back1 s0 C hq) C.f0 qq
theorem len_nil : ∀ ρ ds ρ', (ret [] : Mo (List Dt)) ρ = .ok ds ρ' → ds.length = 0 := fun ρ ds ρ' h => by cases h; rfl
theorem len_cons {n : Nat} (hz : ∀ ρ ds ρ', fa ρ = .ok ds ρ' → ds.length = n) : ∀ ρ ds ρ', consA f fa ρ = .ok ds ρ' → ds.length = n + 1 := fun ρ ds ρ' h => by
  unfold consA bnd at h
  cases e1 : f ρ with
  | ok d ρ1 =>
    rw [e1] at h
    dsimp only at h
    cases e2 : fa ρ1 with
    | ok es ρ2 =>
      rw [e2] at h
      have h' : (Out.ok (d :: es) ρ2 : Out (List Dt)) = .ok ds ρ' := h
      cases h'
      rw [List.length_cons, hz _ _ _ e2]
    | exn _ _ => rw [e2] at h; cases h
    | stuck => rw [e2] at h; cases h
  | exn _ _ => rw [e1] at h; cases h
  | stuck => rw [e1] at h; cases h
end
end DN

namespace DN
open PySem PySem.Spec L2

def putS (i : Nat) (s : Sv) : Mo Unit := fun ρ => match ρ[i]? with
  | some (some (.arg _)) => .stuck
  | some _ => .ok () (ρ.set i (some s))
  | none => .stuck
theorem putS_ok {i : Nat} {s : Sv} {ρ ρ' : Rh} {u : Unit} (h : putS i s ρ = .ok u ρ') : ρ' = ρ.set i (some s) ∧ ∀ o, ρ[i]? ≠ some (some (.arg o)) := by
  unfold putS at h
  split at h
  · cases h
  · rename_i y hy hn
    cases h
    refine ⟨rfl, fun o z => ?_⟩
    rw [z] at hn
    exact hy o (Option.some.inj hn).symm
  · cases h
theorem putS_no {i : Nat} {s : Sv} {ρ ρ' : Rh} {x : Exn} (h : putS i s ρ = .exn x ρ') : False := by
  unfold putS at h
  split at h <;> cases h

section
variable {ι : Type} {Xs : ι → Cx} {P : Program} {w : World} {K : PySem.W.Frag} {mg : Str → Option Value} {base : Heap} {N : List Str} {k : Nat} {Wx : WX} {EI : EIx}
variable {a b c e : Expr} {f g h : Mo Dt} {p q : Mo Bool} {pos pos' : Pos} {es : List Expr} {fa : Mo (List Dt)} {x : Str} {st : Stmt} {sts : List Stmt} {u v : Mo Fl} {fo : Mo Ob}

theorem rg_name (i : Nat) : RG K (gName i) [i] (fun d => putS i (.val d)) := by
  intro B F H ρ σ T v d Q R dv z
  dsimp only at z
  cases e : putS i (.val d) ρ with
  | ok u ρ' =>
    rw [e] at z
    obtain ⟨e1, e2⟩ := putS_ok e
    subst e1
    exact z _ F H (R.put e2 (.inr ⟨d, v, rfl, rfl, dv⟩)) (Same.refl _) (by
      show (σ.set i (some v)).set i none = σ.set i none
      rw [List.set_set])
  | exn x ρ' => exact (putS_no e).elim
  | stuck => rw [e] at z; exact z.elim
theorem fg_name (G : Good Xs P w K mg base N k Wx) (i : Nat) (hN : N[i]? = some x := by rfl) (hx : ∀ j, Loc (Xs j).env.scope x := by intro _; first | exact .inl rfl | exact .inr rfl) (hf : ∀ j, (Xs j).fn x = true ∨ (Xs j).env.scope.names.lookup x = some .local := by intro _; first | exact .inl rfl | exact .inr rfl) :
    FG Xs K (.Name x pos) [i] (fun d => putS i (.val d)) :=
  ⟨_, fun j => pg_name (i := i) (by rw [G.hN j]; exact G.nd) (by rw [G.hN j]; exact hN) (hx j) (hf j), rg_name i⟩
def RGs (K : PySem.W.Frag) (g : TGs) (is : List Nat) (f : List Dt → Mo Unit) : Prop :=
  ∀ B F H ρ σ T vs ds Q, Rel K B F H ρ σ T → DfAll K F vs ds →
    (match f ds ρ with
      | .ok _ ρ' => ∀ σ' F' H', Rel K B F' H' ρ' σ' T → Same F F' → wipe σ' is = wipe σ is → Q σ' H'
      | _ => False) → g vs σ H Q
def FGs (Xs : ι → Cx) (K : PySem.W.Frag) (es : List Expr) (is : List Nat) (f : List Dt → Mo Unit) : Prop := ∃ g, (∀ i, PGs (Xs i) es g) ∧ RGs K g is f
def nilG : List Dt → Mo Unit := fun ds => match ds with
  | [] => ret ()
  | _ => bad
def consG (i : Nat) (f : List Dt → Mo Unit) : List Dt → Mo Unit := fun ds => match ds with
  | d :: ds => bnd (putS i (.val d)) fun _ => f ds
  | [] => bad
theorem fgs_nil : FGs Xs K [] [] nilG := by
  refine ⟨_, fun _ => pgs_nil, fun B F H ρ σ T vs ds Q R d z => ?_⟩
  cases d with
  | nil => exact ⟨rfl, z σ F H R (Same.refl _) rfl⟩
  | cons _ _ => exact z.elim
theorem wipe_set_same {σ : St} {i : Nat} {y : Option V} : ∀ is : List Nat, (wipe (σ.set i y) is).set i none = (wipe σ is).set i none
  | [] => by show (σ.set i y).set i none = σ.set i none; rw [List.set_set]
  | j :: js => by
    show ((wipe (σ.set i y) js).set j none).set i none = ((wipe σ js).set j none).set i none
    by_cases e : j = i
    · subst e
      rw [List.set_set, List.set_set, wipe_set_same js]
    · rw [List.set_comm _ _ e, wipe_set_same js, List.set_comm _ _ (fun z => e z.symm)]
theorem fgs_cons (G : Good Xs P w K mg base N k Wx) (i : Nat) {is : List Nat} {fg : List Dt → Mo Unit} (hr : FGs Xs K es is fg) (hN : N[i]? = some x := by rfl) (hx : ∀ j, Loc (Xs j).env.scope x := by intro _; first | exact .inl rfl | exact .inr rfl) (hf : ∀ j, (Xs j).fn x = true ∨ (Xs j).env.scope.names.lookup x = some .local := by intro _; first | exact .inl rfl | exact .inr rfl)
    (hs : ∀ j, (assignEach (Expr.Name x pos :: es) (Xs j).env).map (·.2) = assign (.Name x pos) (Xs j).env :: (assignEach es (Xs j).env).map (·.2) := by intro _; rfl) : FGs Xs K (.Name x pos :: es) (i :: is) (consG i fg) := by
  obtain ⟨g, pg, qg⟩ := hr
  refine ⟨_, fun j => pgs_cons (pg_name (i := i) (by rw [G.hN j]; exact G.nd) (by rw [G.hN j]; exact hN) (hx j) (hf j)) (pg j) (hs j), fun B F H ρ σ T vs ds Q R d z => ?_⟩
  cases d with
  | nil => exact z.elim
  | @cons v vs d ds d1 d2 =>
    refine ⟨v, vs, rfl, ?_⟩
    unfold consG bnd at z
    dsimp only at z
    cases e : putS i (.val d) ρ with
    | stuck => rw [e] at z; exact z.elim
    | exn x ρ' => exact (putS_no e).elim
    | ok u ρ' =>
      rw [e] at z
      obtain ⟨e1, e2⟩ := putS_ok e
      have R1 := R.put (i := i) (x := some (.val d)) (y := some v) e2 (.inr ⟨d, v, rfl, rfl, d1⟩)
      rw [← e1] at R1
      refine qg B F H ρ' _ T vs ds Q R1 d2 ?_
      dsimp only at z
      cases e3 : fg ds ρ' with
      | stuck => rw [e3] at z; exact z.elim
      | exn _ _ => rw [e3] at z; exact z.elim
      | ok u2 ρ2 =>
        rw [e3] at z
        intro σ' F' H' R2 S2 hw
        refine z σ' F' H' R2 S2 ?_
        show (wipe σ' is).set i none = (wipe σ is).set i none
        rw [hw, wipe_set_same]
def tupG (f : List Dt → Mo Unit) : Dt → Mo Unit := fun d => match d with
  | .tuple ds => f ds
  | _ => bad
theorem fg_tup (G : Good Xs P w K mg base N k Wx) {is : List Nat} {fg : List Dt → Mo Unit} {n j0 : Nat} (hr : FGs Xs K es is fg) (hn : ∀ j, (assignEach es (Xs j).env).length = n := by intro _; rfl) (hst : ∀ j, (assignEach es (Xs j).env).findIdx? (·.1) = none := by intro _; rfl)
    (hz : ∀ ds ρ u ρ', fg ds ρ = .ok u ρ' → ds.length = n) : FG Xs K (.Tuple es j0 pos) is (tupG fg) := by
  obtain ⟨g, pg, qg⟩ := hr
  refine ⟨gTup K n g, fun j => ?_, fun B F H ρ σ T v d Q R dv z => ?_⟩
  · have y := pg_tup (k := j0) (pos := pos) (G.calm j) (pg j) (hn j) (hst j)
    rw [G.hK j] at y
    exact y
  · unfold tupG at z
    cases dv with
    | tup h1 h2 =>
      dsimp only at z
      refine ⟨_, _, rfl, same_seqT R.fro h1, ?_, qg B F H ρ σ T _ _ Q R h2 z⟩
      rw [dfAll_len h2]
      cases e : fg _ ρ with
      | ok u ρ' => exact hz _ _ _ _ e
      | exn _ _ => rw [e] at z; exact z.elim
      | stuck => rw [e] at z; exact z.elim
    | non => exact z.elim
    | bl b => exact z.elim
    | int i => exact z.elim
    | str x => exact z.elim
    | lst _ _ => exact z.elim
    | frl _ _ => exact z.elim
    | dkt _ _ _ => exact z.elim
    | dkk _ _ _ => exact z.elim
theorem gl_nil : ∀ ds ρ u ρ', nilG ds ρ = .ok u ρ' → ds.length = 0 := fun ds ρ u ρ' z => by
  cases ds with
  | nil => rfl
  | cons _ _ => cases z
theorem gl_cons {i n : Nat} {fg : List Dt → Mo Unit} (hz : ∀ ds ρ u ρ', fg ds ρ = .ok u ρ' → ds.length = n) : ∀ ds ρ u ρ', consG i fg ds ρ = .ok u ρ' → ds.length = n + 1 := fun ds ρ u ρ' z => by
  cases ds with
  | nil => cases z
  | cons d ds =>
    unfold consG bnd at z
    dsimp only at z
    cases e : putS i (.val d) ρ with
    | stuck => rw [e] at z; cases z
    | exn _ _ => rw [e] at z; cases z
    | ok u1 ρ1 =>
      rw [e] at z
      rw [List.length_cons, hz _ _ _ _ z]

def done : Mo Fl := ret .nx
def seqM (u v : Mo Fl) : Mo Fl := fun ρ => match u ρ with
  | .ok .nx ρ' => v ρ'
  | o => o
theorem rs_seq {t s : TS} (q1 : RS K EI Wx t u) (q2 : RS K EI Wx s v) : RS K EI Wx (tSeq t s) (seqM u v) := by
  intro B F H ρ σ D R z
  refine q1 B F H ρ σ _ R ?_
  unfold seqM at z
  cases e : u ρ with
  | stuck => rw [e] at z; exact z
  | exn x ρ' => rw [e] at z; exact z
  | ok fl ρ' =>
    rw [e] at z
    cases fl with
    | nx => exact fun σ' F' H' R' S' => q2 B F' H' ρ' σ' D R' (PostS.le S' z)
    | bk => exact z
    | ct => exact z
    | rt d => exact z
theorem fss_nil : FSs Xs K EI Wx [] done := ⟨_, fun _ => pss_nil, fun B F H ρ σ D R z => z σ F H R (Same.refl _)⟩
theorem fss_cons (h1 : FS Xs K EI Wx st u) (h2 : FSs Xs K EI Wx sts v) : FSs Xs K EI Wx (st :: sts) (seqM u v) := by
  obtain ⟨t1, p1, q1⟩ := h1
  obtain ⟨t2, p2, q2⟩ := h2
  exact ⟨_, fun i => pss_cons (p1 i) (p2 i), rs_seq q1 q2⟩
theorem fss_one (h1 : FS Xs K EI Wx st u) : FSs Xs K EI Wx [st] u := by
  obtain ⟨t1, p1, q1⟩ := h1
  exact ⟨_, fun i => pss_one (p1 i), q1⟩
theorem fs_break : FS Xs K EI Wx (.Break pos) (ret .bk) := ⟨_, fun _ => ps_break, fun B F H ρ σ D R z => z σ F H R (Same.refl _)⟩
def exprM (f : Mo Dt) : Mo Fl := bnd f fun _ => done
theorem fs_expr (ha : FE Xs K EI Wx a f) (hs : ∀ i, swapsWith a none pos.line (Xs i).env = pure false := by intro _; rfl) : FS Xs K EI Wx (.Expr a pos) (exprM f) := by
  obtain ⟨t, pa, qa⟩ := ha
  refine ⟨_, fun i => ps_expr (pa i) (hs i), fun B F H ρ σ D R z => ?_⟩
  exact qa B F H ρ σ [] _ R (z.bnd fun d ρ1 F1 H1 R1 S1 h1 x dx => h1 σ F1 H1 R1 (Same.refl _))
def retM (f : Mo Dt) : Mo Fl := bnd f fun d => ret (.rt d)
theorem fs_ret (ha : FE Xs K EI Wx a f) : FS Xs K EI Wx (.Return (some a) pos) (retM f) := by
  obtain ⟨t, pa, qa⟩ := ha
  refine ⟨_, fun i => ps_ret (pa i), fun B F H ρ σ D R z => ?_⟩
  exact qa B F H ρ σ [] _ R (z.bnd fun d ρ1 F1 H1 R1 S1 h1 x dx => h1 x σ F1 H1 R1 (Same.refl _) dx)
def ifM (p : Mo Bool) (u v : Mo Fl) : Mo Fl := bnd p fun c => if c = true then u else v
theorem fs_if (hc : FT Xs K EI Wx c p) {s1 s2 : List Stmt} (h1 : FSs Xs K EI Wx s1 u) (h2 : FSs Xs K EI Wx s2 v) : FS Xs K EI Wx (.If c s1 s2 pos) (ifM p u v) := by
  obtain ⟨t, pc, qc⟩ := hc
  obtain ⟨t1, p1, q1⟩ := h1
  obtain ⟨t2, p2, q2⟩ := h2
  refine ⟨_, fun i => ps_if (pc i) (p1 i) (p2 i), fun B F H ρ σ D R z => ?_⟩
  refine qc B F H ρ σ [] _ R (z.bnd fun d ρ1 F1 H1 R1 S1 h1 => ?_)
  cases d with
  | true => exact iteT (q1 B F1 H1 ρ1 σ D R1 h1)
  | false => exact iteF (q2 B F1 H1 ρ1 σ D R1 h1)
def setM (i : Nat) (f : Mo Dt) : Mo Fl := bnd f fun d => bnd (putS i (.val d)) fun _ => done
def setO (i : Nat) (fo : Mo Ob) : Mo Fl := bnd fo fun o => bnd (putS i (.own o)) fun _ => done
theorem rs_set {t : TE} {i : Nat} (qa : RE K EI Wx t f) : RS K EI Wx (tAsg t (gName i)) (setM i f) := by
  intro B F H ρ σ D R z
  refine qa B F H ρ σ [] _ R (z.bnd fun d ρ1 F1 H1 R1 S1 h1 x dx => ?_)
  unfold bnd at h1
  cases e : putS i (.val d) ρ1 with
  | stuck => rw [e] at h1; exact h1.elim
  | exn _ _ => exact (putS_no e).elim
  | ok u ρ2 =>
    rw [e] at h1
    obtain ⟨e1, e2⟩ := putS_ok e
    subst e1
    exact h1 _ F1 H1 (R1.put e2 (.inr ⟨d, x, rfl, rfl, dx⟩)) (Same.refl _)
theorem rs_setO {t : TE} {i : Nat} (qa : RO K EI Wx t fo) : RS K EI Wx (tAsg t (gName i)) (setO i fo) := by
  intro B F H ρ σ D R z
  refine qa B F H ρ σ [] _ R ?_
  unfold setO bnd at z
  cases e0 : fo ρ with
  | stuck => rw [e0] at z; exact z
  | exn x ρ1 => rw [e0] at z; exact fun cc dd F' H' R' S' q => z cc dd σ F' H' R' S' q
  | ok o ρ1 =>
    rw [e0] at z
    intro pp F1 H1 R1 S1
    dsimp only at z
    cases e : putS i (.own o) ρ1 with
    | stuck => rw [e] at z; exact z.elim
    | exn _ _ => exact (putS_no e).elim
    | ok u ρ2 =>
      rw [e] at z
      obtain ⟨e1, e2⟩ := putS_ok e
      subst e1
      exact z _ F1 H1 (R1.name e2) S1
theorem fs_set (G : Good Xs P w K mg base N k Wx) (i : Nat) (ha : FE Xs K EI Wx a f) (hN : N[i]? = some x := by rfl) (hx : ∀ j, Loc (Xs j).env.scope x := by intro _; first | exact .inl rfl | exact .inr rfl) (hs : ∀ j, swapsWith a (some (.Name x pos')) pos.line (Xs j).env = pure false := by intro _; rfl)
    (hf : ∀ j, (Xs j).fn x = true ∨ (Xs j).env.scope.names.lookup x = some .local := by intro _; first | exact .inl rfl | exact .inr rfl) : FS Xs K EI Wx (.Assign [.Name x pos'] a pos) (setM i f) := by
  obtain ⟨t, pa, qa⟩ := ha
  exact ⟨_, fun j => ps_set (i := i) (by rw [G.hN j]; exact G.nd) (by rw [G.hN j]; exact hN) (hx j) (pa j) (hs j) (hf j), rs_set qa⟩
theorem fs_setO (G : Good Xs P w K mg base N k Wx) (i : Nat) (ha : FO Xs K EI Wx a fo) (hN : N[i]? = some x := by rfl) (hx : ∀ j, Loc (Xs j).env.scope x := by intro _; first | exact .inl rfl | exact .inr rfl) (hs : ∀ j, swapsWith a (some (.Name x pos')) pos.line (Xs j).env = pure false := by intro _; rfl)
    (hf : ∀ j, (Xs j).fn x = true ∨ (Xs j).env.scope.names.lookup x = some .local := by intro _; first | exact .inl rfl | exact .inr rfl) : FS Xs K EI Wx (.Assign [.Name x pos'] a pos) (setO i fo) := by
  obtain ⟨t, pa, qa⟩ := ha
  exact ⟨_, fun j => ps_set (i := i) (by rw [G.hN j]; exact G.nd) (by rw [G.hN j]; exact hN) (hx j) (pa j) (hs j) (hf j), rs_setO qa⟩
/-- any target -/
def asgM (f : Mo Dt) (g : Dt → Mo Unit) : Mo Fl := bnd f fun d => fun ρ => match g d ρ with
  | .ok _ ρ' => .ok .nx ρ'
  | _ => .stuck
end
end DN

namespace DN
open PySem PySem.Spec L2

section
variable {ι : Type} {Xs : ι → Cx} {P : Program} {w : World} {K : PySem.W.Frag} {mg : Str → Option Value} {base : Heap} {N : List Str} {k : Nat} {Wx : WX} {EI : EIx}
variable {a b c e : Expr} {f g h : Mo Dt} {p q : Mo Bool} {pos pos' : Pos} {es : List Expr} {fa : Mo (List Dt)} {x y : Str} {st : Stmt} {sts : List Stmt} {u v : Mo Fl} {fo : Mo Ob}

def PostX (K : PySem.W.Frag) (EI : EIx) (Wx : WX) (B : Bs) (σ : St) (T : List (Ob × Addr)) (F : Hp) (Q : VK) : Out Sv → Prop
  | .ok (.val d) ρ' => ∀ v F' H', Rel K B F' H' ρ' σ T → Same F F' → Df K F' v d → Q v H'
  | .ok (.own o) ρ' => ∀ p F' H', Rel K B F' H' ρ' σ ((o, p) :: T) → Same F F' → Q (.ref p) H'
  | .ok (.arg _) _ => False
  | .exn x ρ' => ∀ c dd F' H', Rel K B F' H' ρ' σ T → Same F F' → EI x c dd H' → Wx c dd σ H'
  | .stuck => False
def RX (K : PySem.W.Frag) (EI : EIx) (Wx : WX) (t : TE) (f : Mo Sv) : Prop := ∀ B F H ρ σ T Q, Rel K B F H ρ σ T → PostX K EI Wx B σ T F Q (f ρ) → t σ H Q
def FX (Xs : ι → Cx) (K : PySem.W.Frag) (EI : EIx) (Wx : WX) (e : Expr) (f : Mo Sv) : Prop := ∃ t, (∀ i, PE (Xs i) e t) ∧ RX K EI Wx t f
def xE (f : Mo Dt) : Mo Sv := bnd f fun d => ret (.val d)
def xO (f : Mo Ob) : Mo Sv := bnd f fun o => ret (.own o)
theorem fx_e (ha : FE Xs K EI Wx a f) : FX Xs K EI Wx a (xE f) := by
  obtain ⟨t, pa, qa⟩ := ha
  refine ⟨t, pa, fun B F H ρ σ T Q R z => qa B F H ρ σ T Q R ?_⟩
  unfold xE bnd at z
  cases e0 : f ρ with
  | ok d r => rw [e0] at z; exact fun F' H' R' S' v dv => z v F' H' R' S' dv
  | exn _ _ => rw [e0] at z; exact z
  | stuck => rw [e0] at z; exact z
def isArg : Sv → Bool
  | .arg _ => true
  | _ => false
def parM (i j : Nat) (f g : Mo Sv) : Mo Fl := fun ρ => match f ρ with
  | .ok s ρ1 => (match g ρ1 with
    | .ok r ρ2 => if isArg s || isArg r then .stuck else (match putS j r ρ2 with
      | .ok _ ρ3 => (match putS i s ρ3 with
        | .ok _ ρ4 => .ok .nx ρ4
        | _ => .stuck)
      | _ => .stuck)
    | _ => .stuck)
  | _ => .stuck
theorem rel_put1 {B : Bs} {F H : Hp} {ρ ρ' : Rh} {σ : St} {T : List (Ob × Addr)} {i : Nat} {d : Dt} {v : V} {u : Unit} (R : Rel K B F H ρ σ T) (dv : Df K F v d) (e : putS i (.val d) ρ = .ok u ρ') : Rel K B F H ρ' (σ.set i (some v)) T := by
  obtain ⟨e1, e2⟩ := putS_ok e
  subst e1
  exact R.put e2 (.inr ⟨d, v, rfl, rfl, dv⟩)
theorem rel_put2 {B : Bs} {F H : Hp} {ρ ρ' : Rh} {σ : St} {T : List (Ob × Addr)} {i : Nat} {o : Ob} {adr : Addr} {u : Unit} (R : Rel K B F H ρ σ ((o, adr) :: T)) (e : putS i (.own o) ρ = .ok u ρ') : Rel K B F H ρ' (σ.set i (some (.ref adr))) T := by
  obtain ⟨e1, e2⟩ := putS_ok e
  subst e1
  exact R.name e2
theorem fs_par (G : Good Xs P w K mg base N k Wx) (i j : Nat) {f g : Mo Sv} (ha : FX Xs K EI Wx a f) (hb : FX Xs K EI Wx b g) {px py pt : Pos} {kt k2 pt2} (hi : N[i]? = some x := by rfl) (hj : N[j]? = some y := by rfl) (hij : i ≠ j := by decide)
    (hx : ∀ l, (Xs l).env.scope.names.lookup x = some .local := by intro _; rfl) (hy : ∀ l, (Xs l).env.scope.names.lookup y = some .local := by intro _; rfl)
    (hw : ∀ l, swappedStores [.Tuple [.Name x px, .Name y py] kt pt] (.Tuple [a, b] k2 pt2) (Xs l).env = pure (some [x, y]) := by intro _; rfl)
    (hs : ∀ l, swapsWithSole [.Tuple [.Name x px, .Name y py] kt pt] (.Tuple [a, b] k2 pt2) pos.line (Xs l).env = pure false := by intro _; rfl)
    (h1 : ∀ l, starEach [a, b] (Xs l).env = (false, eval a (Xs l).env) :: starEach [b] (Xs l).env := by intro _; rfl) (h2 : ∀ l, starEach [b] (Xs l).env = (false, eval b (Xs l).env) :: starEach [] (Xs l).env := by intro _; rfl) :
    FS Xs K EI Wx (.Assign [.Tuple [.Name x px, .Name y py] kt pt] (.Tuple [a, b] k2 pt2) pos) (parM i j f g) := by
  obtain ⟨ta, pa, qa⟩ := ha
  obtain ⟨tb, pb, qb⟩ := hb
  refine ⟨_, fun l => ps_par (i := i) (j := j) (G.calm l) (by rw [G.hN l]; exact G.nd) (by rw [G.hN l]; exact hi) (by rw [G.hN l]; exact hj) hij (hx l) (hy l) (pa_cons (pa l) (pa_cons (pb l) pa_nil (h2 l)) (h1 l)) (hw l) (hs l), fun B F H ρ σ D R z => ?_⟩
  unfold parM at z
  refine qa B F H ρ σ [] _ R ?_
  cases e1 : f ρ with
  | stuck => rw [e1] at z; exact z.elim
  | exn _ _ => rw [e1] at z; exact z.elim
  | ok s ρ1 =>
    rw [e1] at z
    dsimp only at z
    cases e2 : g ρ1 with
    | stuck => rw [e2] at z; exact z.elim
    | exn _ _ => rw [e2] at z; exact z.elim
    | ok r ρ2 =>
      rw [e2] at z
      dsimp only at z
      by_cases hb : (isArg s || isArg r) = true
      · rw [if_pos hb] at z; exact z.elim
      rw [if_neg hb] at z
      cases e3 : putS j r ρ2 with
      | stuck => rw [e3] at z; exact z.elim
      | exn _ _ => exact (putS_no e3).elim
      | ok _ ρ3 =>
        rw [e3] at z
        dsimp only at z
        cases e4 : putS i s ρ3 with
        | stuck => rw [e4] at z; exact z.elim
        | exn _ _ => exact (putS_no e4).elim
        | ok _ ρ4 =>
          rw [e4] at z
          cases s with
          | arg _ => exact (hb rfl).elim
          | val d =>
            intro v1 F1 H1 R1 S1 d1
            refine qb B F1 H1 ρ1 σ [] _ R1 ?_
            rw [e2]
            cases r with
            | arg _ => exact (hb rfl).elim
            | val d2 =>
              intro v2 F2 H2 R2 S2 d2'
              refine ⟨v1, v2, rfl, ?_⟩
              rw [List.set_comm _ _ hij]
              exact z _ F2 H2 (rel_put1 (rel_put1 R2 d2' e3) (df_mono S2 d1) e4) (S1.trans S2)
            | own o2 =>
              intro p2 F2 H2 R2 S2
              refine ⟨v1, .ref p2, rfl, ?_⟩
              rw [List.set_comm _ _ hij]
              exact z _ F2 H2 (rel_put1 (rel_put2 R2 e3) (df_mono S2 d1) e4) (S1.trans S2)
          | own o =>
            intro p1 F1 H1 R1 S1
            refine qb B F1 H1 ρ1 σ _ _ R1 ?_
            rw [e2]
            cases r with
            | arg _ => exact (hb rfl).elim
            | val d2 =>
              intro v2 F2 H2 R2 S2 d2'
              refine ⟨.ref p1, v2, rfl, ?_⟩
              rw [List.set_comm _ _ hij]
              exact z _ F2 H2 (rel_put2 (rel_put1 R2 d2' e3) e4) (S1.trans S2)
            | own o2 =>
              intro p2 F2 H2 R2 S2
              refine ⟨.ref p1, .ref p2, rfl, ?_⟩
              rw [List.set_comm _ _ hij]
              exact z _ F2 H2 (rel_put2 (rel_put2 R2 e3) e4) (S1.trans S2)

def augM (i : Nat) (f : Mo Dt) : Mo Fl := fun ρ => match ρ[i]? with
  | some (some (.val (.int n))) => bnd f (fun d => match d with
    | .int m => bnd (putS i (.val (.int (n + m)))) fun _ => done
    | _ => bad) ρ
  | _ => .stuck
/-- x[j] = e -/
def putIx (i : Nat) (f g : Mo Dt) : Mo Fl := bnd f fun d => fun ρ1 => match getO i ρ1 with
  | none => .stuck
  | some _ => bnd g (fun e => fun ρ => match getO i ρ, e with
    | some (.lst ds), .int j => (match ixN ds.length j with
      | some n => .ok .nx (putR i (.lst (ds.set n d)) ρ)
      | none => .stuck)
    | _, _ => .stuck) ρ1
theorem ObRel.lst {F : Hp} {ds : List Dt} {vs : List V} (h : DfAll K F vs ds) : ObRel K F (.lst ds) (.lst vs) := ⟨vs, rfl, h⟩
theorem fs_putIx (G : Good Xs P w K mg base N k Wx) (i : Nat) {p0 sp : Pos} (ha : FE Xs K EI Wx a f) (hb : FE Xs K EI Wx b g) (hN : N[i]? = some x := by rfl) (hv : ∀ j, Vis (Xs j).env.scope x := by intro _; first | exact Or.inl rfl | exact Or.inr (Or.inl rfl) | exact Or.inr (Or.inr rfl))
    (h1 : (x == ("__debug__" : Str)) = false := by decide) (h2 : (x == ("__classdict__" : Str)) = false := by decide)
    (hs : ∀ j, swapsWithSole [.Subscript (.Name x p0) b sp] a pos.line (Xs j).env = pure false := by intro _; rfl) (hw : ∀ j, swappedStores [.Subscript (.Name x p0) b sp] a (Xs j).env = pure none := by intro _; rfl)
    (h3 : ∀ j, (assignEach [Expr.Subscript (.Name x p0) b sp] (Xs j).env).map (·.2) = [assign (.Subscript (.Name x p0) b sp) (Xs j).env] := by intro _; rfl)
    (h4 : ∀ j v, assign (.Subscript (.Name x p0) b sp) (Xs j).env v = (do
      let ov ← holding [v] (eval (.Name x p0) (Xs j).env)
      let iv ← holding [v, ov] (eval b (Xs j).env)
      standAt sp
      holding [v, ov, iv] (setItem ov iv v)
      release [v, ov, iv] []) := by intro _ _; rfl) : FS Xs K EI Wx (.Assign [.Subscript (.Name x p0) b sp] a pos) (putIx i f g) := by
  obtain ⟨t, pa, qa⟩ := ha
  obtain ⟨tb, pb, qb⟩ := hb
  refine ⟨tAsg t (gSub (tVar i) tb rSetL), fun j => ps_asg (pa j) (pg_sub (pe_var (i := i) (by rw [G.hN j]; exact hN) (hv j) h1 h2) (pb j) set_list (h4 j)) (hs j) (hw j) (h3 j), fun B F H ρ σ D R z => ?_⟩
  unfold putIx at z
  refine qa B F H ρ σ [] _ R (z.bnd fun d ρ1 F1 H1 R1 S1 y1 v dv => ?_)
  cases e0 : getO i ρ1 with
  | none => rw [e0] at y1; exact y1.elim
  | some o0 =>
    rw [e0] at y1
    obtain ⟨adr, sa, _⟩ := R1.own i o0 (getO_own e0)
    refine ⟨.ref adr, sa, qb B F1 H1 ρ1 σ [] _ R1 (y1.bnd fun e ρ2 F2 H2 R2 S2 y3 iv div => ?_)⟩
    cases eo : getO i ρ2 with
    | none => rw [eo] at y3; exact y3.elim
    | some o =>
      rw [eo] at y3
      obtain ⟨adr', s', ⟨ho, k1, k2⟩, _⟩ := R2.own i o (getO_own eo)
      rw [sa] at s'
      cases s'
      cases o with
      | dk _ => exact y3.elim
      | dt _ => exact y3.elim
      | lst ds =>
        cases e <;> first | exact y3.elim | skip
        rename_i j
        dsimp only at y3
        cases en : ixN ds.length j with
        | none => rw [en] at y3; exact y3.elim
        | some n =>
          rw [en] at y3
          cases div
          obtain ⟨vs, eo2, k3⟩ := k2
          subst eo2
          obtain ⟨q, eq, hq⟩ := putR_cases (o' := .lst (ds.set n d)) eo
          dsimp only at y3
          rw [eq] at y3
          refine ⟨adr, vs, j, n, rfl, rfl, k1, by rw [dfAll_len k3]; exact en, ?_⟩
          exact y3 σ F2 _ (R2.write (getO_own eo) sa (ObRel.lst (dfAll_set (df_mono S2 dv) n k3)) hq) (Same.refl _)
/-- x.append(e) -/
def appM (i : Nat) (f : Mo Dt) : Mo Fl := fun ρ0 => match getO i ρ0 with
  | some (.lst _) => bnd f (fun d => fun ρ => match getO i ρ with
    | some (.lst ds) => if ds.length < sizeLine then .ok .nx (putR i (.lst (ds ++ [d])) ρ) else .stuck
    | _ => .stuck) ρ0
  | _ => .stuck
theorem pi_or {X : Cx} {tg l : Expr} {w1 w2 : TI} (h1 : PI X tg l w1) (h2 : PI X tg l w2) : PI X tg l (fun σ H R => w1 σ H R ∨ w2 σ H R) :=
  ⟨fun pins s σ H R I h => h.elim (h1.run pins s σ H R I) (h2.run pins s σ H R I)⟩
def itemsOf : Dt → Option (List Dt)
  | .list ds => some ds
  | .tuple ds => some ds
  | .dict [(.none, .list ds)] => some ds
  | _ => none
def iterM (f : Mo Dt) : Mo (List Dt) := bnd f fun d => opt (itemsOf d)
theorem yl_list {F : Hp} {adr : Addr} {vs : List V} {ds : List Dt} (h : SqL K F adr vs) (d : DfAll K F vs ds) : Yields K (Itl K adr) ds F := by
  intro F' H S1 S2
  have hs : SqL K H adr vs := S2.seq (S1.seq h)
  refine ⟨fun i hi => ?_, fun i x H' d0 e y => ?_, ⟨vs, hs, by rw [dfAll_len d]; exact Nat.le_refl _⟩⟩
  · obtain ⟨v, e, _⟩ := dfAll_get d (List.getElem?_eq_getElem hi)
    exact ⟨vs, v, hs, e⟩
  · obtain ⟨rfl, y2⟩ := y
    obtain ⟨v, e2, d2⟩ := dfAll_get d e
    have ev := y2 vs hs
    rw [e2] at ev
    cases ev
    exact ⟨F', .same, df_mono S1 d2⟩
theorem yl_tup {F : Hp} {adr : Addr} {vs : List V} {ds : List Dt} (h : TupAt K F adr vs ds) (d : DfAll K F vs ds) : Yields K (Itt K adr) ds F := by
  intro F' H S1 S2
  have hs : SqT K H adr vs := same_seqT S2 (h.mono S1)
  refine ⟨fun i hi => ?_, fun i x H' d0 e y => ?_, ⟨vs, hs, by rw [dfAll_len d]; exact Nat.le_refl _⟩⟩
  · obtain ⟨v, e, _⟩ := dfAll_get d (List.getElem?_eq_getElem hi)
    exact ⟨vs, v, hs, e⟩
  · obtain ⟨rfl, y2⟩ := y
    obtain ⟨v, e2, d2⟩ := dfAll_get d e
    have ev := y2 vs hs
    rw [e2] at ev
    cases ev
    exact ⟨F', .same, df_mono S1 d2⟩
theorem fi_seq {tg : Expr} (G : Good Xs P w K mg base N k Wx) (ha : FE Xs K EI Wx a f) : FI Xs K EI Wx tg a (iterM f) := by
  obtain ⟨t, pa, qa⟩ := ha
  refine ⟨fun σ H R => iList K t σ H R ∨ iTup K t σ H R, fun i => ?_, fun B F H ρ σ T R0 R z => ?_⟩
  · have z := pi_or (pi_list (tg := tg) (pa i)) (pi_tup (tg := tg) (pa i))
    rw [G.hK i] at z
    exact z
  · unfold iterM at z
    have key : ∀ isT : Bool, (∀ d ρ1, f ρ = .ok d ρ1 → (isT = true ↔ ∃ ds, d = .tuple ds)) → (if isT then iTup K t σ H R0 else iList K t σ H R0) := fun isT hT => by
      have zz := z
      unfold DN.bnd at zz
      have st : ∀ d ρ1, f ρ = .ok d ρ1 → Post K EI Wx B σ T F (fun ds F' H' => ∀ J, Yields K J ds F' → R0 J H') (opt (itemsOf d) ρ1) := fun d ρ1 e => by rw [e] at zz; exact zz
      cases isT with
      | true =>
        rw [if_pos rfl]
        refine qa B F H ρ σ T _ R ?_
        cases e : f ρ with
        | stuck => rw [e] at zz; exact zz
        | exn _ _ => rw [e] at zz; exact zz
        | ok d ρ1 =>
          intro F1 H1 R1 S1 v dv
          obtain ⟨ds, rfl⟩ := (hT d ρ1 e).mp rfl
          obtain ⟨is, ei, q⟩ := (st _ ρ1 e).opt
          cases ei
          cases dv with
          | tup g1 g2 => exact ⟨_, rfl, ⟨_, same_seqT R1.fro g1⟩, q F1 H1 R1 S1 _ (yl_tup g1 g2)⟩
      | false =>
        rw [if_neg Bool.false_ne_true]
        refine qa B F H ρ σ T _ R ?_
        cases e : f ρ with
        | stuck => rw [e] at zz; exact zz
        | exn _ _ => rw [e] at zz; exact zz
        | ok d ρ1 =>
          intro F1 H1 R1 S1 v dv
          have nt : ¬ ∃ ds, d = .tuple ds := fun y => by
            have := (hT d ρ1 e).mpr y
            cases this
          obtain ⟨is, ei, q⟩ := (st _ ρ1 e).opt
          cases dv with
          | tup g1 g2 => exact (nt ⟨_, rfl⟩).elim
          | lst g1 g2 =>
            cases ei
            exact ⟨_, rfl, ⟨_, .inl (.inl (R1.fro _ _ g1))⟩, q F1 H1 R1 S1 _ (yl_list (.inl (.inl g1)) g2)⟩
          | dkt _ _ _ => cases ei
          | dkk _ _ _ => cases ei
          | frl g1 g2 =>
            cases ei
            exact ⟨_, rfl, ⟨_, R1.fro.seq g1⟩, q F1 H1 R1 S1 _ (yl_list g1 g2)⟩
          | non => cases ei
          | bl b => cases ei
          | int i => cases ei
          | str x => cases ei
    by_cases h : ∃ ds ρ1, f ρ = .ok (.tuple ds) ρ1
    · obtain ⟨ds, ρ1, e⟩ := h
      exact .inr (key true fun d ρ2 e2 => Iff.intro (fun _ => (by rw [e] at e2; cases e2; exact ⟨ds, rfl⟩)) (fun _ => rfl))
    · exact .inl (key false fun d ρ2 e2 => Iff.intro (fun y => Bool.noConfusion y) (fun ⟨ds, y⟩ => (h ⟨ds, ρ2, by rw [e2, y]⟩).elim))
def rangeD (lo : Int) (n : Nat) : List Dt := (List.range n).map fun i => .int (lo + (i : Nat))
theorem rangeD_get {lo : Int} {n i : Nat} {d : Dt} (h : (rangeD lo n)[i]? = some d) : i < n ∧ d = .int (lo + i) := by
  unfold rangeD at h
  rw [List.getElem?_map] at h
  by_cases hi : i < n
  · rw [List.getElem?_range hi] at h
    cases h
    exact ⟨hi, rfl⟩
  · rw [List.getElem?_eq_none (by simpa using hi)] at h
    cases h
theorem rangeD_len {lo : Int} {n : Nat} : (rangeD lo n).length = n := by simp [rangeD]
theorem yl_range {F : Hp} {lo : Int} {n : Nat} : Yields K (Itr lo n) (rangeD lo n) F := by
  intro F' H S1 S2
  refine ⟨fun i hi => by rw [rangeD_len] at hi; exact hi, fun i x H' d0 e y => ?_, by rw [rangeD_len]; exact Nat.le_refl n⟩
  obtain ⟨rfl, y2⟩ := y
  obtain ⟨_, e2⟩ := rangeD_get e
  subst e2
  rw [y2]
  exact ⟨F', .same, .int _⟩
def dR1 : List Dt → Option (List Dt)
  | [.int j] => if decide (-(2 ^ 62) ≤ j) && decide (j < 2 ^ 62) then some (rangeD 0 j.toNat) else none
  | _ => none
def dR2 : List Dt → Option (List Dt)
  | [.int i, .int j] => if decide (-(2 ^ 62) ≤ i) && decide (i < 2 ^ 62) && decide (-(2 ^ 62) ≤ j) && decide (j < 2 ^ 62) then some (rangeD i (j - i).toNat) else none
  | _ => none
def rngM (o : List Dt → Option (List Dt)) (fa : Mo (List Dt)) : Mo (List Dt) := bnd fa fun ds => opt (o ds)
theorem fi_range1 {tg : Expr} {pc : Pos} (G : Good Xs P w K mg base N k Wx) (hm : mg "range" = none) (ha : FA Xs K EI Wx [a] fa) (hg : ∀ i, Gl (Xs i) "range" := by intro _; rfl) (hs : ∀ i, starEach [a] (Xs i).env = [(false, eval a (Xs i).env)] := by intro _; rfl) : FI Xs K EI Wx tg (.Call (.Name "range" pos') [a] [] pc) (rngM dR1 fa) := by
  obtain ⟨t, pa, qa⟩ := ha
  refine ⟨_, fun i => pi_range1 (hg i) (by rw [G.hm i]; exact hm) (pa i) (hs i), fun B F H ρ σ T R0 R z => ?_⟩
  refine qa B F H ρ σ T _ R (z.bnd fun ds ρ1 F1 H1 R1 S1 h1 vs dvs => ?_)
  obtain ⟨is, ei, q⟩ := h1.opt
  unfold dR1 at ei
  split at ei
  · split at ei
    · rename_i hc
      simp only [Bool.and_eq_true, decide_eq_true_eq] at hc
      cases ei
      cases dvs with
      | cons d1 d2 =>
        cases d2
        cases d1
        exact ⟨_, rfl, hc.1, hc.2, q F1 H1 R1 (Same.refl _) _ yl_range⟩
    · cases ei
  · cases ei
theorem fi_range2 {tg : Expr} {pc : Pos} (G : Good Xs P w K mg base N k Wx) (hm : mg "range" = none) (ha : FA Xs K EI Wx [a, b] fa) (hg : ∀ i, Gl (Xs i) "range" := by intro _; rfl) (hs : ∀ i, starEach [a, b] (Xs i).env = [(false, eval a (Xs i).env), (false, eval b (Xs i).env)] := by intro _; rfl)
    (hs2 : ∀ i, starEach [b] (Xs i).env = [(false, eval b (Xs i).env)] := by intro _; rfl) : FI Xs K EI Wx tg (.Call (.Name "range" pos') [a, b] [] pc) (rngM dR2 fa) := by
  obtain ⟨t, pa, qa⟩ := ha
  refine ⟨_, fun i => pi_range2 (hg i) (by rw [G.hm i]; exact hm) (pa i) (hs i) (hs2 i), fun B F H ρ σ T R0 R z => ?_⟩
  refine qa B F H ρ σ T _ R (z.bnd fun ds ρ1 F1 H1 R1 S1 h1 vs dvs => ?_)
  obtain ⟨is, ei, q⟩ := h1.opt
  unfold dR2 at ei
  split at ei
  · split at ei
    · rename_i hc
      simp only [Bool.and_eq_true, decide_eq_true_eq] at hc
      cases ei
      cases dvs with
      | cons d1 d2 =>
        cases d2 with
        | cons d2 d3 =>
          cases d3
          cases d1
          cases d2
          exact ⟨_, _, rfl, ⟨hc.1.1.1, hc.1.1.2, hc.1.2, hc.2⟩, q F1 H1 R1 (Same.refl _) _ yl_range⟩
    · cases ei
  · cases ei

def forL (g : Dt → Mo Unit) (b : Mo Fl) : List Dt → Mo Fl
  | [] => done
  | d :: ds => fun ρ => match g d ρ with
    | .ok _ ρ1 => (match b ρ1 with
      | .ok .nx ρ2 => forL g b ds ρ2
      | .ok .ct ρ2 => forL g b ds ρ2
      | .ok .bk ρ2 => .ok .nx ρ2
      | o => o)
    | _ => .stuck
def forM (it : Mo (List Dt)) (g : Dt → Mo Unit) (b : Mo Fl) : Mo Fl := bnd it fun ds => forL g b ds
theorem rs_for {wi : TI} {tg : TG} {tb : TS} {is : List Nat} {it : Mo (List Dt)} {g : Dt → Mo Unit} (qi : RI K EI Wx wi it) (qg : RG K tg is g) (qb : RS K EI Wx tb u) : RS K EI Wx (tFor wi tg tb) (forM it g u) := by
  intro B F H ρ σ D R z
  refine qi B F H ρ σ [] _ R (z.bnd fun ds ρ1 F1 H1 R1 S1 h1 J Y => ?_)
  refine ⟨fun i m σ' H' => m = ds.length - i ∧ i ≤ ds.length ∧ ∃ ρ' F', Rel K B F' H' ρ' σ' [] ∧ Same F1 F' ∧ PostS K EI Wx B F' D (forL g u (ds.drop i) ρ'), ⟨ds.length, by simp, Nat.zero_le _, ρ1, F1, R1, Same.refl _, h1⟩, ?_⟩
  rintro i m σ2 H2 ⟨em, hi, ρ2, F2, R2, S2, z2⟩
  obtain ⟨y1, y2, y3⟩ := Y F2 H2 S2 R2.fro
  by_cases hlt : i < ds.length
  · have ed : ds.drop i = ds[i] :: ds.drop (i + 1) := List.drop_eq_getElem_cons hlt
    rw [ed] at z2
    refine .inr ⟨y1 i hlt, fun σ' H' => ∃ ρ' F', Rel K B F' H' ρ' σ' [] ∧ Same F1 F' ∧ PostS K EI Wx B F' D (forL g u (ds.drop (i + 1)) ρ'), fun σ' H' n => ⟨ds.length - (i + 1), by omega, rfl, hlt, n⟩, fun x H' yy => ?_⟩
    obtain ⟨F3, G3, d3⟩ := y2 i x H' _ (List.getElem?_eq_getElem hlt) yy
    have R3 := R2.grown G3
    have S3 := G3.same' R2.fro
    refine qg B F3 H' ρ2 σ2 [] x _ _ R3 d3 ?_
    unfold forL at z2
    cases eg : g ds[i] ρ2 with
    | stuck => rw [eg] at z2; exact z2.elim
    | exn _ _ => rw [eg] at z2; exact z2.elim
    | ok u0 ρ4 =>
      rw [eg] at z2
      intro σ4 F4 H4 R4 S4 _
      refine qb B F4 H4 ρ4 σ4 _ R4 ?_
      have S24 : Same F2 F4 := S3.trans S4
      dsimp only at z2
      cases eb : u ρ4 with
      | stuck => rw [eb] at z2; exact z2
      | exn _ _ => rw [eb] at z2; exact fun cc dd σ' F' H' R' S' q => z2 cc dd σ' F' H' R' (S24.trans S') q
      | ok fl ρ5 =>
        rw [eb] at z2
        cases fl with
        | nx => exact fun σ' F' H' R' S' => ⟨ρ5, F', R', S2.trans (S24.trans S'), PostS.le (S24.trans S') z2⟩
        | ct => exact fun σ' F' H' R' S' => ⟨ρ5, F', R', S2.trans (S24.trans S'), PostS.le (S24.trans S') z2⟩
        | bk => exact fun σ' F' H' R' S' => z2 σ' F' H' R' (S24.trans S')
        | rt d => exact fun v σ' F' H' R' S' => z2 v σ' F' H' R' (S24.trans S')
  · have e : i = ds.length := by omega
    subst e
    rw [List.drop_length] at z2
    exact .inl ⟨y3, z2 σ2 F2 H2 R2 (Same.refl _)⟩
theorem fs_for {tg : Expr} {is : List Nat} {it : Mo (List Dt)} {g : Dt → Mo Unit} (G : Good Xs P w K mg base N k Wx) (hi : FI Xs K EI Wx tg a it) (hg : FG Xs K tg is g) (hb : FSs Xs K EI Wx sts u) (hp : ∀ i, PassesOwn (model (Xs i).prog (Xs i).w) (Xs i).A (Xs i).env (Xs i).xe)
    (hs : ∀ i x, foldedSetIterable a (Xs i).env x = pure x := by intro _ _; rfl) : FS Xs K EI Wx (.For tg a sts [] pos) (forM it g u) := by
  obtain ⟨wi, pi, qi⟩ := hi
  obtain ⟨gg, pg, qg⟩ := hg
  obtain ⟨tb, pb, qb⟩ := hb
  exact ⟨_, fun i => ps_for (hp i) (G.calm i) (pi i) (pg i) (pb i) (hs i), rs_for qi qg qb⟩

def whB (p : Mo Bool) (b k : Mo Fl) : Mo Fl := fun ρ => match p ρ with
  | .ok true ρ1 => (match b ρ1 with
    | .ok .nx ρ2 => k ρ2
    | .ok .ct ρ2 => k ρ2
    | .ok .bk ρ2 => .ok .nx ρ2
    | o => o)
  | .ok false ρ1 => .ok .nx ρ1
  | .exn x r => .exn x r
  | .stuck => .stuck
def whileN (p : Mo Bool) (b : Mo Fl) : Nat → Mo Fl
  | 0 => bad
  | n + 1 => whB p b (whileN p b n)
open Classical in
noncomputable def whileM (p : Mo Bool) (b : Mo Fl) : Mo Fl := fun ρ => if h : ∃ n, whileN p b n ρ ≠ .stuck then whileN p b (choose h) ρ else .stuck
theorem whileN_succ {p : Mo Bool} {b : Mo Fl} : ∀ {n : Nat} {ρ : Rh}, whileN p b n ρ ≠ .stuck → whileN p b (n + 1) ρ = whileN p b n ρ
  | 0, ρ, h => (h rfl).elim
  | n + 1, ρ, h => by
    have h' : whB p b (whileN p b n) ρ ≠ .stuck := h
    show whB p b (whileN p b (n + 1)) ρ = whB p b (whileN p b n) ρ
    unfold whB at h' ⊢
    cases ep : p ρ with
    | stuck => rfl
    | exn _ _ => rfl
    | ok c ρ1 =>
      rw [ep] at h'
      cases c with
      | false => rfl
      | true =>
        dsimp only at h' ⊢
        cases eb : b ρ1 with
        | stuck => rfl
        | exn _ _ => rfl
        | ok fl ρ2 =>
          rw [eb] at h'
          cases fl with
          | nx => exact whileN_succ h'
          | ct => exact whileN_succ h'
          | bk => rfl
          | rt _ => rfl
theorem whileN_le {p : Mo Bool} {b : Mo Fl} {n m : Nat} {ρ : Rh} (h : whileN p b n ρ ≠ .stuck) (hm : n ≤ m) : whileN p b m ρ = whileN p b n ρ := by
  induction hm with
  | refl => rfl
  | step _ ih => rw [whileN_succ (by rw [ih]; exact h), ih]
theorem whileM_of {p : Mo Bool} {b : Mo Fl} {n : Nat} {ρ : Rh} (h : whileN p b n ρ ≠ .stuck) : whileM p b ρ = whileN p b n ρ := by
  unfold whileM
  rw [dif_pos ⟨n, h⟩]
  have q := Classical.choose_spec (⟨n, h⟩ : ∃ n, whileN p b n ρ ≠ .stuck)
  rcases Nat.le_total n (Classical.choose (⟨n, h⟩ : ∃ n, whileN p b n ρ ≠ .stuck)) with l | l
  · exact whileN_le h l
  · exact (whileN_le q l).symm
theorem rs_while {tc : TT} {tb : TS} (qc : RT K EI Wx tc p) (qb : RS K EI Wx tb u) : RS K EI Wx (tWhile tc tb) (whileM p u) := by
  intro B F H ρ σ D R z
  have hne : ∃ n, whileN p u n ρ ≠ .stuck := by
    apply Classical.byContradiction
    intro h
    unfold whileM at z
    rw [dif_neg h] at z
    exact z
  obtain ⟨n0, h0⟩ := hne
  rw [whileM_of h0] at z
  refine ⟨fun m σ' H' => ∃ ρ' F', Rel K B F' H' ρ' σ' [] ∧ PostS K EI Wx B F' D (whileN p u m ρ'), ⟨n0, ρ, F, R, z⟩, ?_⟩
  rintro m σ1 H1 ⟨ρ1, F1, R1, z1⟩
  cases m with
  | zero => exact z1.elim
  | succ m =>
    have z1 : PostS K EI Wx B F1 D (whB p u (whileN p u m) ρ1) := z1
    unfold whB at z1
    refine qc B F1 H1 ρ1 σ1 [] _ R1 ?_
    cases ep : p ρ1 with
    | stuck => rw [ep] at z1; exact z1
    | exn _ _ => rw [ep] at z1; exact fun cc dd F' H' R' S' q => z1 cc dd σ1 F' H' R' S' q
    | ok c ρ2 =>
      rw [ep] at z1
      intro F2 H2 R2 S2
      cases c with
      | false => exact iteF (z1 σ1 F2 H2 R2 S2)
      | true =>
        refine iteT ⟨fun σ' H' => ∃ ρ' F', Rel K B F' H' ρ' σ' [] ∧ PostS K EI Wx B F' D (whileN p u m ρ'), fun σ' H' n => ⟨m, Nat.lt_succ_self _, n⟩, ?_⟩
        refine qb B F2 H2 ρ2 σ1 _ R2 ?_
        dsimp only at z1
        cases eb : u ρ2 with
        | stuck => rw [eb] at z1; exact z1
        | exn _ _ => rw [eb] at z1; exact fun cc dd σ' F' H' R' S' q => z1 cc dd σ' F' H' R' (S2.trans S') q
        | ok fl ρ3 =>
          rw [eb] at z1
          cases fl with
          | nx => exact fun σ' F' H' R' S' => ⟨ρ3, F', R', PostS.le (S2.trans S') z1⟩
          | ct => exact fun σ' F' H' R' S' => ⟨ρ3, F', R', PostS.le (S2.trans S') z1⟩
          | bk => exact fun σ' F' H' R' S' => z1 σ' F' H' R' (S2.trans S')
          | rt d => exact fun v σ' F' H' R' S' => z1 v σ' F' H' R' (S2.trans S')
theorem fs_while (hc : FT Xs K EI Wx c p) (hb : FSs Xs K EI Wx sts u) (hp : ∀ i, PassesOwn (model (Xs i).prog (Xs i).w) (Xs i).A (Xs i).env (Xs i).xe) : FS Xs K EI Wx (.While c sts [] pos) (whileM p u) := by
  obtain ⟨tc, pc, qc⟩ := hc
  obtain ⟨tb, pb, qb⟩ := hb
  exact ⟨_, fun i => ps_while (hp i) (pc i) (pb i), rs_while qc qb⟩
end
end DN

namespace DN
open PySem PySem.Spec L2

def wipeR (ρ : Rh) : List Nat → Rh
  | [] => ρ
  | v :: vs => (wipeR ρ vs).set v none
theorem wipeR_get {ρ : Rh} {i : Nat} {s : Sv} : ∀ {vs : List Nat}, (wipeR ρ vs)[i]? = some (some s) → ρ[i]? = some (some s) ∧ i ∉ vs
  | [], h => ⟨h, by simp⟩
  | v :: vs, h => by
    have h' : ((wipeR ρ vs).set v none)[i]? = some (some s) := h
    by_cases e : v = i
    · subst e
      by_cases hl : v < (wipeR ρ vs).length
      · rw [List.getElem?_set_self hl] at h'; cases h'
      · rw [List.getElem?_eq_none (by rw [List.length_set]; omega)] at h'; cases h'
    · rw [List.getElem?_set_ne e] at h'
      obtain ⟨a, b⟩ := wipeR_get h'
      exact ⟨a, by simp only [List.mem_cons, not_or]; exact ⟨fun z => e z.symm, b⟩⟩
theorem wipe_get {σ : St} {i : Nat} : ∀ {vs : List Nat}, i ∉ vs → (wipe σ vs)[i]? = σ[i]?
  | [], _ => rfl
  | v :: vs, h => by
    simp only [List.mem_cons, not_or] at h
    show ((wipe σ vs).set v none)[i]? = σ[i]?
    rw [List.getElem?_set_ne (fun z => h.1 z.symm), wipe_get h.2]
section
variable {K : PySem.W.Frag} {B : Bs} {F H : Hp} {ρ : Rh} {σ σ' : St} {T : List (Ob × Addr)}
/-- the slots that hold nothing do not matter -/
theorem Rel.agree (R : Rel K B F H ρ σ T) (hl : σ'.length = σ.length) (h : ∀ (i : Nat) (s : Sv), ρ[i]? = some (some s) → σ'[i]? = σ[i]?) : Rel K B F H ρ σ' T := by
  have ho : ∀ {i : Nat} {o : Ob}, Own ρ i o → σ'[i]? = σ[i]? := fun {i o} e => by
    rcases e with e | e
    · exact h i _ e
    · exact h i _ e
  refine ⟨hl.trans R.len, fun i d e => by rw [h i _ e]; exact R.val i d e, fun i o e => by rw [ho e]; exact R.own i o e, fun i j o p a e1 e2 q1 q2 => ?_, fun x hx => ?_, R.tnd, fun i a => ?_, R.fro, R.f0, R.frm, R.dom, R.fnw⟩
  · rw [ho e1] at q1
    rw [ho e2] at q2
    exact R.dis i j o p a e1 e2 q1 q2
  · obtain ⟨a, b, c, d⟩ := R.tmp x hx
    exact ⟨a, b, c, fun i o e => by rw [ho e]; exact d i o e⟩
  · rw [R.args i a]
    constructor
    · rintro ⟨o, z1, z2⟩; exact ⟨o, z1, by rw [h i _ z1]; exact z2⟩
    · rintro ⟨o, z1, z2⟩; exact ⟨o, z1, by rw [h i _ z1] at z2; exact z2⟩
def NoW (B : Bs) (vs : List Nat) : Prop := ∀ i ∈ vs, ∀ a, (i, a) ∉ B.W
theorem Rel.noarg (R : Rel K B F H ρ σ T) {vs : List Nat} (nw : NoW B vs) {i : Nat} (hi : i ∈ vs) (o : Ob) : ρ[i]? ≠ some (some (.arg o)) := fun e => by
  obtain ⟨a, s, _⟩ := R.own i o (.inr e)
  exact nw i hi a ((R.args i a).mpr ⟨o, e, s⟩)
theorem Rel.wipe (R : Rel K B F H ρ σ T) : ∀ {vs : List Nat}, NoW B vs → Rel K B F H (wipeR ρ vs) (L2.wipe σ vs) T
  | [], _ => R
  | v :: vs, nw => by
    have R1 := Rel.wipe R (vs := vs) fun i hi => nw i (List.mem_cons_of_mem _ hi)
    exact R1.put (i := v) (x := none) (y := none) (fun o => R1.noarg nw List.mem_cons_self o) (.inl rfl)
theorem Rel.unwipe {vs : List Nat} (R : Rel K B F H ρ (L2.wipe σ vs) T) (h : ∀ (i : Nat) (s : Sv), ρ[i]? = some (some s) → i ∉ vs) : Rel K B F H ρ σ T :=
  R.agree (by rw [wipe_length]) fun i s e => (wipe_get (h i s e)).symm
theorem Rel.towipe {vs : List Nat} (R : Rel K B F H ρ σ T) (h : ∀ (i : Nat) (s : Sv), ρ[i]? = some (some s) → i ∉ vs) : Rel K B F H ρ (L2.wipe σ vs) T :=
  R.agree (by rw [wipe_length]) fun i s e => wipe_get (h i s e)
end

def compL (g : Dt → Mo Unit) (p : Mo Bool) (f : Mo Dt) (vs : List Nat) : List Dt → List Dt → Mo (List Dt)
  | [], acc => ret acc
  | d :: ds, acc => fun ρ => match g d ρ with
    | .ok _ ρ1 => (match p ρ1 with
      | .ok true ρ2 => (match f ρ2 with
        | .ok e ρ3 => compL g p f vs ds (acc ++ [e]) (wipeR ρ3 vs)
        | _ => .stuck)
      | .ok false ρ2 => compL g p f vs ds acc (wipeR ρ2 vs)
      | _ => .stuck)
    | _ => .stuck
def hasArg (ρ : Rh) (i : Nat) : Bool := match ρ[i]? with
  | some (some (.arg _)) => true
  | _ => false
def compM (it : Mo (List Dt)) (g : Dt → Mo Unit) (p : Mo Bool) (f : Mo Dt) (vs : List Nat) : Mo Ob := bnd it fun ds => fun ρ =>
  if decide (ds.length < sizeLine) && vs.all fun i => !hasArg ρ i then (match compL g p f vs ds [] (wipeR ρ vs) with
    | .ok acc ρ' => .ok (.lst acc) ρ'
    | _ => .stuck) else .stuck
def yes : Mo Bool := ret true

section
variable {ι : Type} {Xs : ι → Cx} {P : Program} {w : World} {K : PySem.W.Frag} {mg : Str → Option Value} {base : Heap} {N : List Str} {k : Nat} {Wx : WX} {EI : EIx}
variable {a b c e : Expr} {f : Mo Dt} {p : Mo Bool} {pos pos' : Pos} {x : Str} {it : Mo (List Dt)} {g : Dt → Mo Unit}
theorem rt_yes : RT K EI W0 tYes yes := fun B F H ρ σ T Q R z => z F H R (Same.refl _)
theorem noW_of {B : Bs} {F H : Hp} {ρ : Rh} {σ : St} {T : List (Ob × Addr)} (R : Rel K B F H ρ σ T) {vs : List Nat} (h : (vs.all fun i => !hasArg ρ i) = true) : NoW B vs := fun i hi a z => by
  obtain ⟨o, e, _⟩ := (R.args i a).mp z
  have q := List.all_eq_true.mp h i hi
  unfold hasArg at q
  rw [e] at q
  cases q
theorem ro_comp {wi : TI} {tg : TG} {tt : TT} {te : TE} {vs : List Nat} (qi : RI K EI Wx wi it) (qg : RG K tg vs g) (qt : RT K EI W0 tt p) (qe : RE K EI W0 te f) : RO K EI Wx (tLc wi tg tt te vs) (compM it g p f vs) := by
  intro B F H ρ σ T Q R z
  refine qi B F H ρ σ T _ R (z.bnd fun ds ρ1 F1 H1 R1 S1 h1 J Y D hD => ?_)
  by_cases hc : (decide (ds.length < sizeLine) && vs.all fun i => !hasArg ρ1 i) = true
  rotate_left
  · rw [if_neg hc] at h1
    exact h1.elim
  rw [if_pos hc] at h1
  simp only [Bool.and_eq_true, decide_eq_true_eq] at hc
  have nw := noW_of R1 hc.2
  have Rs : Rel K B F1 (upd H1 D (.lst [])) (wipeR ρ1 vs) σ ((.lst [], D) :: T) := ((R1.pend hD (ObRel.lst .nil)).wipe nw).unwipe fun i s e => (wipeR_get e).2
  -- the end that is wanted of what is left
  let Pd : Hp → Out (List Dt) → Prop := fun F2 o => match o with
    | .ok acc ρ' => ∀ F' H', Rel K B F' H' ρ' σ ((.lst acc, D) :: T) → Same F2 F' → Q (.ref D) H'
    | _ => False
  have Pm : ∀ {F2 F3 : Hp} {o : Out (List Dt)}, Same F2 F3 → Pd F2 o → Pd F3 o := fun {F2 F3 o} S q => by
    cases o with
    | ok acc ρ' => exact fun F' H' R' S' => q F' H' R' (S.trans S')
    | exn _ _ => exact q
    | stuck => exact q
  have h2 : Pd F1 (compL g p f vs ds [] (wipeR ρ1 vs)) := by
    cases ec : compL g p f vs ds [] (wipeR ρ1 vs) with
    | stuck => rw [ec] at h1; exact h1
    | exn _ _ => rw [ec] at h1; exact h1.elim
    | ok acc ρ' => rw [ec] at h1; exact fun F' H' R' S' => h1 D F' H' R' S'
  refine ⟨fun i m H' => m = ds.length - i ∧ i ≤ ds.length ∧ ∃ ρ' F' acc, Rel K B F' H' ρ' σ ((.lst acc, D) :: T) ∧ Same F1 F' ∧ acc.length ≤ i ∧ (∀ (j : Nat) (s : Sv), ρ'[j]? = some (some s) → j ∉ vs) ∧ Pd F' (compL g p f vs (ds.drop i) acc ρ'),
    ⟨ds.length, by simp, Nat.zero_le _, wipeR ρ1 vs, F1, [], Rs, Same.refl _, Nat.le_refl _, fun j s e => (wipeR_get e).2, h2⟩, ?_⟩
  rintro i m H2 ⟨em, hi, ρ2, F2, acc, R2, S2, hal, hnv, z2⟩
  obtain ⟨y1, y2, y3⟩ := Y F2 H2 S2 R2.fro
  by_cases hlt : i < ds.length
  · have ed : ds.drop i = ds[i] :: ds.drop (i + 1) := List.drop_eq_getElem_cons hlt
    rw [ed] at z2
    refine .inr ⟨y1 i hlt, fun H' => ∃ ρ' F' acc, Rel K B F' H' ρ' σ ((.lst acc, D) :: T) ∧ Same F1 F' ∧ acc.length ≤ i + 1 ∧ (∀ (j : Nat) (s : Sv), ρ'[j]? = some (some s) → j ∉ vs) ∧ Pd F' (compL g p f vs (ds.drop (i + 1)) acc ρ'), fun H' n => ⟨ds.length - (i + 1), by omega, rfl, hlt, n⟩, fun x H' yy => ?_⟩
    obtain ⟨F3, G3, d3⟩ := y2 i x H' _ (List.getElem?_eq_getElem hlt) yy
    have R3 := (R2.grown G3).towipe hnv
    have S3 := G3.same' R2.fro
    refine qg B F3 H' ρ2 (wipe σ vs) _ x _ _ R3 d3 ?_
    unfold compL at z2
    cases eg : g ds[i] ρ2 with
    | stuck => rw [eg] at z2; exact z2.elim
    | exn _ _ => rw [eg] at z2; exact z2.elim
    | ok u0 ρ4 =>
      rw [eg] at z2
      intro σ4 F4 H4 R4 S4 hw
      have hww : wipe (wipe σ vs) vs = wipe σ vs := by
        have : ∀ (us : List Nat) (τ : St), (∀ j ∈ us, ∀ y, τ[j]? = some y → y = none) → wipe τ us = τ := by
          intro us
          induction us with
          | nil => intro τ _; rfl
          | cons u us ih =>
            intro τ hτ
            show (wipe τ us).set u none = τ
            rw [ih τ fun j hj => hτ j (List.mem_cons_of_mem _ hj)]
            apply List.ext_getElem?
            intro j
            by_cases e : u = j
            · subst e
              by_cases hl : u < τ.length
              · rw [List.getElem?_set_self hl]
                cases q : τ[u]? with
                | none => rw [List.getElem?_eq_none_iff] at q; omega
                | some y => rw [hτ u List.mem_cons_self y q]
              · rw [List.getElem?_eq_none (by rw [List.length_set]; omega), List.getElem?_eq_none (by omega)]
            · rw [List.getElem?_set_ne e]
        refine this vs _ fun j hj y e => ?_
        cases y with
        | none => rfl
        | some v => exact ((wipe_some e).2 hj).elim
      rw [hww] at hw
      refine ⟨hw, ?_⟩
      refine qt B F4 H4 ρ4 σ4 _ _ R4 ?_
      have S24 : Same F2 F4 := S3.trans S4
      dsimp only at z2
      cases ep : p ρ4 with
      | stuck => rw [ep] at z2; exact z2.elim
      | exn _ _ => rw [ep] at z2; exact z2.elim
      | ok cb ρ5 =>
        rw [ep] at z2
        intro F5 H5 R5 S5
        cases cb with
        | false =>
          refine iteF ⟨wipeR ρ5 vs, F5, acc, ?_, S2.trans (S24.trans S5), Nat.le_succ_of_le hal, fun j s e => (wipeR_get e).2, Pm (S24.trans S5) z2⟩
          have q := R5.wipe nw
          rw [hw] at q
          exact q.unwipe fun j s e => (wipeR_get e).2
        | true =>
          refine iteT (qe B F5 H5 ρ5 σ4 _ _ R5 ?_)
          dsimp only at z2
          cases ee : f ρ5 with
          | stuck => rw [ee] at z2; exact z2.elim
          | exn _ _ => rw [ee] at z2; exact z2.elim
          | ok d ρ6 =>
            rw [ee] at z2
            intro F6 H6 R6 S6 v dv
            obtain ⟨⟨ho, k1, k2⟩, _⟩ := R6.tmp (.lst acc, D) List.mem_cons_self
            obtain ⟨vs', eo, k3⟩ := k2
            subst eo
            refine ⟨vs', k1, by rw [dfAll_len k3]; omega, wipeR ρ6 vs, F6, acc ++ [d], ?_, S2.trans (S24.trans (S5.trans S6)), by rw [List.length_append]; show acc.length + 1 ≤ i + 1; omega, fun j s e => (wipeR_get e).2, Pm (S24.trans (S5.trans S6)) z2⟩
            have q := (R6.tput (ObRel.lst (dfAll_app k3 (.cons dv .nil)))).wipe nw
            rw [hw] at q
            exact q.unwipe fun j s e => (wipeR_get e).2
  · have e : i = ds.length := by omega
    subst e
    rw [List.drop_length] at z2
    exact .inl ⟨y3, z2 F2 H2 R2 (Same.refl _)⟩
def FTs (Xs : ι → Cx) (K : PySem.W.Frag) (EI : EIx) (Wx : WX) (es : List Expr) (f : Mo Bool) : Prop := ∃ t, (∀ i, PTs (Xs i) es t) ∧ RT K EI Wx t f
theorem fts_nil : FTs Xs K EI W0 [] yes := ⟨_, fun _ => pts_nil, rt_yes⟩
theorem fts_one (ha : FT Xs K EI W0 a p) : FTs Xs K EI W0 [a] p := by
  obtain ⟨t, pa, qa⟩ := ha
  exact ⟨_, fun i => pts_one (pa i), qa⟩
theorem fo_comp (G : Good Xs P w K mg base N k Wx) {tg elt : Expr} {ifs : List Expr} {scope : Scope} (own : List (Str × Nat)) (sc : Scope) {vs : List Nat} (hi : FI Xs K EI Wx tg a it) (hg : FG (blks Xs scope) K tg vs g) (ht : FTs (blks Xs scope) K EI W0 ifs p) (he : FE (blks Xs scope) K EI W0 elt f)
    (hv : own.map (·.2) = vs := by rfl) (hsc : ∀ i, (Xs i).env.scope = sc := by intro _; rfl) (hok : blkC N sc scope own = true := by decide +kernel) (hs : ∀ i x, foldedSetIterable a (Xs i).env x = pure x := by intro _ _; rfl) : FO Xs K EI Wx (.ListComp elt [⟨tg, a, ifs, 0⟩] scope pos) (compM it g p f vs) := by
  obtain ⟨wi, pi, qi⟩ := hi
  obtain ⟨gg, pg, qg⟩ := hg
  obtain ⟨tt, pt, qt⟩ := ht
  obtain ⟨te, pe, qe⟩ := he
  subst hv
  refine ⟨_, fun i => pe_lc (own := own) (G.calm i) (by rw [G.hN i]; exact G.nd) (pi i) (by rw [G.hN i, hsc i]; exact blkOk_by hok) (fun s H C cl fp => pg (i, s, H, C, cl, fp)) (fun s H C cl fp => pt (i, s, H, C, cl, fp)) (fun s H C cl fp => pe (i, s, H, C, cl, fp)) (hs i), ro_comp qi qg qt qe⟩
def pick : Sv → Option Sv → Sv
  | .arg _, some (.arg o) => .arg o
  | r, _ => r
def backs : List Sv → Rh → List Sv
  | [], _ => []
  | r :: rs, [] => r :: rs
  | r :: rs, x :: xs => pick r x :: backs rs xs
def fnD (n : Nat) (body : Mo Fl) : Fn := fun rs => match body (rs.map some ++ List.replicate (n - rs.length) none) with
  | .ok .nx ρ => .ok .none (backs rs ρ)
  | .ok (.rt d) ρ => .ok d (backs rs ρ)
  | .ok _ _ => .stuck
  | .exn x ρ => .exn x (backs rs ρ)
  | .stuck => .stuck
theorem backs_len : ∀ (rs : List Sv) (ρ : Rh), (backs rs ρ).length = rs.length
  | [], _ => rfl
  | r :: rs, [] => rfl
  | r :: rs, x :: xs => congrArg (· + 1) (backs_len rs xs)
theorem pick_or (r : Sv) (x : Option Sv) : pick r x = r ∨ ∃ o o', r = .arg o ∧ pick r x = .arg o' ∧ x = some (.arg o') := by
  cases r with
  | val _ => exact .inl rfl
  | own _ => exact .inl rfl
  | arg o =>
    cases x with
    | none => exact .inl rfl
    | some y =>
      cases y with
      | val _ => exact .inl rfl
      | own _ => exact .inl rfl
      | arg o' => exact .inr ⟨o, o', rfl, rfl, rfl⟩
theorem backs_get : ∀ (rs : List Sv) (ρ : Rh) (i : Nat) (s : Sv), (backs rs ρ)[i]? = some s → rs[i]? = some s ∨ ∃ o o', rs[i]? = some (.arg o) ∧ s = .arg o' ∧ ρ[i]? = some (some (.arg o'))
  | [], _, i, s, h => by simp [backs] at h
  | r :: rs, [], i, s, h => .inl h
  | r :: rs, x :: xs, 0, s, h => by
    have e : pick r x = s := by simpa [backs] using h
    rcases pick_or r x with q | ⟨o, o', q1, q2, q3⟩
    · rw [q] at e; subst e; exact .inl rfl
    · rw [q2] at e; subst e; subst q1; subst q3; exact .inr ⟨o, o', rfl, rfl, rfl⟩
  | r :: rs, x :: xs, i + 1, s, h => by
    have h' : (backs rs xs)[i]? = some s := by simpa [backs] using h
    simpa using backs_get rs xs i s h'
theorem backs_arg : ∀ (rs : List Sv) (ρ : Rh) (i : Nat) (o o' : Ob), rs[i]? = some (.arg o) → ρ[i]? = some (some (.arg o')) → (backs rs ρ)[i]? = some (.arg o')
  | [], _, i, o, o', h, _ => by simp at h
  | r :: rs, [], i, o, o', _, h => by simp at h
  | r :: rs, x :: xs, 0, o, o', h, h2 => by
    have e1 : r = .arg o := by simpa using h
    have e2 : x = some (.arg o') := by simpa using h2
    subst e1; subst e2
    rfl
  | r :: rs, x :: xs, i + 1, o, o', h, h2 => by
    have := backs_arg rs xs i o o' (by simpa using h) (by simpa using h2)
    simpa [backs] using this

/-- the state as the caller sees it -/
theorem Rel.backs {F0 H0 F' H' : Hp} {W : List (Nat × Addr)} {ρ' : Rh} {σ' : St} {rs : List Sv} {vs : List V} (R0 : Rel K ⟨H0, F0, W⟩ F0 H0 (rs.map some) (vs.map some) []) (R : Rel K ⟨H0, F0, W⟩ F' H' ρ' σ' []) (hno : ∀ (i : Nat) (o : Ob), rs[i]? ≠ some (.own o)) :
    Rel K ⟨H0, F0, W⟩ F' H' ((DN.backs rs ρ').map some) (vs.map some) [] := by
  have S : Same F0 F' := R.f0
  have gm : ∀ {l : List Sv} {i : Nat} {s : Sv}, (l.map some)[i]? = some (some s) ↔ l[i]? = some s := fun {l i s} => by
    rw [List.getElem?_map]
    cases l[i]? <;> simp
  -- an owned one behind: it was the caller's, at the same place
  have old : ∀ {i : Nat} {o : Ob}, Own ((DN.backs rs ρ').map some) i o → ∃ a, (i, a) ∈ W ∧ (vs.map some)[i]? = some (some (.ref a)) ∧ (DN.backs rs ρ')[i]? = some (.arg o) ∧ ρ'[i]? = some (some (.arg o)) ∧ σ'[i]? = some (some (.ref a)) := fun {i o} e => by
    have pre : ∀ q, rs[i]? = some (.arg q) → ∃ a, (i, a) ∈ W ∧ (vs.map some)[i]? = some (some (.ref a)) ∧ ∃ o2, ρ'[i]? = some (some (.arg o2)) ∧ σ'[i]? = some (some (.ref a)) := fun q hq => by
      obtain ⟨a, s, _⟩ := R0.own i q (.inr (gm.mpr hq))
      have hw : (i, a) ∈ W := (R0.args i a).mpr ⟨q, gm.mpr hq, s⟩
      obtain ⟨o2, z1, z2⟩ := (R.args i a).mp hw
      exact ⟨a, hw, s, o2, z1, z2⟩
    rcases e with e | e
    · have e' := gm.mp e
      rcases backs_get rs ρ' i _ e' with q | ⟨q, o', q1, q2, q3⟩
      · exact (hno i o q).elim
      · cases q2
    · have e' := gm.mp e
      rcases backs_get rs ρ' i _ e' with q | ⟨q, o', q1, q2, q3⟩
      · obtain ⟨a, h1, h2, o2, z1, z2⟩ := pre o q
        have := backs_arg rs ρ' i o o2 q z1
        rw [e'] at this
        cases this
        exact ⟨a, h1, h2, e', z1, z2⟩
      · cases q2
        obtain ⟨a, h1, h2, o2, z1, z2⟩ := pre q q1
        rw [q3] at z1
        cases z1
        exact ⟨a, h1, h2, e', q3, z2⟩
  refine ⟨?_, fun i d e => ?_, fun i o e => ?_, fun i j o p a e1 e2 q1 q2 => ?_, fun x hx => (List.not_mem_nil hx).elim, List.nodup_nil, fun i a => ?_, R.fro, R.f0, R.frm, R.dom, R.fnw⟩
  · have h := R0.len
    rw [List.length_map, List.length_map] at h ⊢
    rw [backs_len]
    exact h
  · rcases backs_get rs ρ' i _ (gm.mp e) with q | ⟨q, o', q1, q2, q3⟩
    · obtain ⟨v, h1, h2⟩ := R0.val i d (gm.mpr q)
      exact ⟨v, h1, df_mono S h2⟩
    · cases q2
  · obtain ⟨a, h1, h2, h3, h4, h5⟩ := old e
    obtain ⟨a', s', k1, k2, k3⟩ := R.own i o (.inr h4)
    rw [h5] at s'
    cases s'
    exact ⟨a, h2, k1, k2, .inr h1⟩
  · obtain ⟨a1, h1, h2, h3, h4, h5⟩ := old e1
    obtain ⟨a2, g1, g2, g3, g4, g5⟩ := old e2
    rw [h2] at q1
    rw [g2] at q2
    cases q1
    cases q2
    exact R.dis i j o p a (.inr h4) (.inr g4) h5 g5
  · constructor
    · intro hw
      obtain ⟨o, z1, z2⟩ := (R0.args i a).mp hw
      obtain ⟨o2, y1, y2⟩ := (R.args i a).mp hw
      exact ⟨o2, gm.mpr (backs_arg rs ρ' i o o2 (gm.mp z1) y1), z2⟩
    · rintro ⟨o, z1, z2⟩
      obtain ⟨a1, h1, h2, _⟩ := old (.inr z1)
      rw [z2] at h2
      cases h2
      exact h1
/-- at a def's entry its other slots hold nothing -/
theorem Rel.enter {F H : Hp} {W : List (Nat × Addr)} {rs : List Sv} {vs : List V} {n : Nat} {m : Nat} (R : Rel K ⟨H, F, W⟩ F H (rs.map some) (vs.map some) []) (hm : m = n - vs.length) : Rel K ⟨H, F, W⟩ F H (rs.map some ++ List.replicate (n - rs.length) none) (vs.map some ++ List.replicate m none) [] := by
  have hl : rs.length = vs.length := by
    have h := R.len
    rw [List.length_map, List.length_map] at h
    exact h.symm
  have gl : ∀ {i : Nat} {s : Sv}, (rs.map some ++ List.replicate (n - rs.length) none)[i]? = some (some s) → (rs.map some)[i]? = some (some s) ∧ i < rs.length := fun {i s} e => by
    by_cases hi : i < rs.length
    · rw [List.getElem?_append_left (by rw [List.length_map]; exact hi)] at e
      exact ⟨e, hi⟩
    · rw [List.getElem?_append_right (by rw [List.length_map]; omega), List.getElem?_replicate] at e
      split at e <;> cases e
  have gs : ∀ {i : Nat}, i < rs.length → (vs.map some ++ List.replicate m none)[i]? = (vs.map some)[i]? := fun {i} hi => List.getElem?_append_left (by rw [List.length_map]; omega)
  have go : ∀ {i : Nat} {o : Ob}, Own (rs.map some ++ List.replicate (n - rs.length) none) i o → Own (rs.map some) i o ∧ i < rs.length := fun {i o} e => by
    rcases e with e | e
    · exact ⟨.inl (gl e).1, (gl e).2⟩
    · exact ⟨.inr (gl e).1, (gl e).2⟩
  refine ⟨?_, fun i d e => ?_, fun i o e => ?_, fun i j o p a e1 e2 q1 q2 => ?_, fun x hx => (List.not_mem_nil hx).elim, List.nodup_nil, fun i a => ?_, R.fro, R.f0, R.frm, R.dom, R.fnw⟩
  · simp [hl, hm]
  · obtain ⟨e1, e2⟩ := gl e
    rw [gs e2]
    exact R.val i d e1
  · obtain ⟨e1, e2⟩ := go e
    rw [gs e2]
    exact R.own i o e1
  · obtain ⟨f1, f2⟩ := go e1
    obtain ⟨g1, g2⟩ := go e2
    rw [gs f2] at q1
    rw [gs g2] at q2
    exact R.dis i j o p a f1 g1 q1 q2
  · rw [R.args i a]
    constructor
    · rintro ⟨o, z1, z2⟩
      have hi : i < rs.length := by
        have := (List.getElem?_eq_some_iff.mp z1).1
        rw [List.length_map] at this
        exact this
      exact ⟨o, by rw [List.getElem?_append_left (by rw [List.length_map]; exact hi)]; exact z1, by rw [gs hi]; exact z2⟩
    · rintro ⟨o, z1, z2⟩
      obtain ⟨e1, e2⟩ := gl z1
      rw [gs e2] at z2
      exact ⟨o, e1, z2⟩

theorem good_cx {qual : Str} {scope : Scope} {f0 : Addr} {cd : Value} {A : Around} {outer : List Env} {s : Shared} {H : Hp} {E : XK} (nd : N.Nodup) (hr : Room k (A.deeper (PyProof.Rows.envOfC qual scope s.heap.objs.size f0 cd))) :
    Good (fun _ : Unit => cxOf (L2.CX P w) P w K mg base N qual scope f0 cd A outer s H E) P w K mg base N k (fun c d _ H => E c d H) :=
  ⟨fun _ => rfl, fun _ => rfl, fun _ => rfl, fun _ => rfl, fun _ => rfl, fun _ => rfl, nd, fun _ => rfl, fun _ => hr, fun _ σ => passAt (takes_of rfl rfl rfl rfl) σ⟩
/-- THE RULE for a def -/
theorem ok_fn {x qual : Str} {st : Stmt} {f0 : Addr} {fd : FuncData} {ps : List Str} {body : Mo Fl} {m : Nat} (D : Fun K x qual st f0 fd) (S : FnScope N ps (defScope st)) (hm : ps.length = m)
    (hb : ∀ (cdv : Value) (A : Around) (outer : List Env) (s : Shared) (H : Hp) (E : XK), Good (fun _ : Unit => cxOf (L2.CX P w) P w K mg base N qual (defScope st) f0 cdv A outer s H E) P w K mg base N k (fun c d _ H => E c d H) →
      (∀ i : Unit, PassesOwn (model ((fun _ : Unit => cxOf (L2.CX P w) P w K mg base N qual (defScope st) f0 cdv A outer s H E) i).prog ((fun _ : Unit => cxOf (L2.CX P w) P w K mg base N qual (defScope st) f0 cdv A outer s H E) i).w) ((fun _ : Unit => cxOf (L2.CX P w) P w K mg base N qual (defScope st) f0 cdv A outer s H E) i).A
        ((fun _ : Unit => cxOf (L2.CX P w) P w K mg base N qual (defScope st) f0 cdv A outer s H E) i).env ((fun _ : Unit => cxOf (L2.CX P w) P w K mg base N qual (defScope st) f0 cdv A outer s H E) i).xe) →
      FSs (fun _ : Unit => cxOf (L2.CX P w) P w K mg base N qual (defScope st) f0 cdv A outer s H E) K EI (fun c d _ H => E c d H) (defBody st) body) :
    FnOk P w K mg base (L2.CX P w) (k + 1) f0 fd ps (spD K EI m (fnD N.length body)) := by
  refine D.okX S (fun vs H Q E h => ?_) (fun cdv A outer s H vs Q E hr h => ?_)
  · obtain ⟨F, rs, W, e, _⟩ := h
    rw [e, hm]
  · obtain ⟨F, rs, W, e, hno, R, q⟩ := h
    obtain ⟨t, pt, qt⟩ := hb cdv A outer s H E (good_cx S.nd hr) (fun _ => passes_of rfl)
    refine ⟨t, pt (), ?_⟩
    have R1 := R.enter (n := N.length) (m := N.length - vs.length) rfl
    refine qt _ F H _ _ _ R1 ?_
    unfold fnD at q
    cases eb : body (rs.map some ++ List.replicate (N.length - rs.length) none) with
    | stuck => rw [eb] at q; exact q
    | exn y ρ' =>
      rw [eb] at q
      exact fun cc dd σ' F' H' R' _ z => q cc dd F' H' (R.backs R' hno) z
    | ok fl ρ' =>
      rw [eb] at q
      cases fl with
      | nx => exact fun σ' F' H' R' S' => q .non F' H' (R.backs R' hno) S' .non
      | rt d => exact fun v σ' F' H' R' S' dv => q v F' H' (R.backs R' hno) S' dv
      | bk => exact q.elim
      | ct => exact q.elim
end
end DN

namespace DN
open PySem PySem.Spec L2

structure Dn (P : Program) (w : World) (K : PySem.W.Frag) (mg : Str → Option Value) (base : Heap) (EI : EIx) (x : Str) (n lv : Nat) (fn : Fn) : Prop where
  ex : ∃ (f : Addr) (fd : FuncData) (ps : List Str), FnOk P w K mg base (L2.CX P w) lv f fd ps (spD K EI n fn) ∧ mg x = some (.ref f) ∧ PySem.W.keepIn K (.ref f) = true ∧ Binds K fd ps []
/-- a def's statement stands under its name -/
structure At0 (K : PySem.W.Frag) (mg : Str → Option Value) (x : Str) (st : Stmt) : Prop where
  ex : ∃ (f : Addr) (fd : FuncData), Fun K x x st f fd ∧ mg x = some (.ref f)
section
variable {ι : Type} {Xs : ι → Cx} {P : Program} {w : World} {K : PySem.W.Frag} {mg : Str → Option Value} {base : Heap} {N : List Str} {k : Nat} {Wx : WX} {EI : EIx}
variable {a b c e : Expr} {f g h : Mo Dt} {p : Mo Bool} {pos pos' : Pos} {es : List Expr} {fa : Mo (List Dt)} {x y : Str} {sts : List Stmt} {u : Mo Fl}
theorem dn_mk {st : Stmt} {ps : List Str} {body : Mo Fl} {m lv : Nat} (h : At0 K mg x st) (S : FnScope N ps (defScope st)) (hm : ps.length = m) (hl : lv = k + 1)
    (bd : ∀ (kV doc pm : Value) (an : Option Addr) (cdv ct : Value) (us : List Value), us.length = ps.length → bindArgs (PySem.W.fnOf x x (defArgs st) (defBody st) (defScope st) .none kV doc pm an cdv ct) ⟨us, []⟩ = pure (ps.zip us))
    (hb : ∀ (f0 : Addr) (cdv : Value) (A : Around) (outer : List Env) (s : Shared) (H : Hp) (E : XK), Good (fun _ : Unit => cxOf (L2.CX P w) P w K mg base N x (defScope st) f0 cdv A outer s H E) P w K mg base N k (fun c d _ H => E c d H) →
      (∀ i : Unit, PassesOwn (model ((fun _ : Unit => cxOf (L2.CX P w) P w K mg base N x (defScope st) f0 cdv A outer s H E) i).prog ((fun _ : Unit => cxOf (L2.CX P w) P w K mg base N x (defScope st) f0 cdv A outer s H E) i).w) ((fun _ : Unit => cxOf (L2.CX P w) P w K mg base N x (defScope st) f0 cdv A outer s H E) i).A
        ((fun _ : Unit => cxOf (L2.CX P w) P w K mg base N x (defScope st) f0 cdv A outer s H E) i).env ((fun _ : Unit => cxOf (L2.CX P w) P w K mg base N x (defScope st) f0 cdv A outer s H E) i).xe) →
      FSs (fun _ : Unit => cxOf (L2.CX P w) P w K mg base N x (defScope st) f0 cdv A outer s H E) K EI (fun c d _ H => E c d H) (defBody st) body) : Dn P w K mg base EI x m lv (fnD N.length body) := by
  obtain ⟨f0, fd, F, hx⟩ := h
  subst hl
  exact ⟨f0, fd, ps, ok_fn F S hm (hb f0), hx, F.kp, F.binds bd⟩
theorem fe_callD {n lv : Nat} {fn : Fn} (G : Good Xs P w K mg base N k Wx) (D : Dn P w K mg base EI x n lv fn) (hj : lv ≤ k) (ha : FA Xs K EI Wx (e :: es) fa) (hz : ∀ ρ ds ρ', fa ρ = .ok ds ρ' → ds.length = n) (hn : es.length + 1 = n := by rfl) (hg : ∀ i, Gl (Xs i) x := by intro _; rfl)
    (hdb : (x == ("__debug__" : Str)) = false := by decide) (he : ∀ i, starEach (e :: es) (Xs i).env = (false, eval e (Xs i).env) :: starEach es (Xs i).env := by intro _; rfl) (hpl : ∀ i, (backTo pos (starEach es (Xs i).env)).any (·.1) = false := by intro _; rfl) : FE Xs K EI Wx (.Call (.Name x pos') (e :: es) [] pos) (callM fn fa) := by
  obtain ⟨f0, fd, ps, h1, h2, h3, h4⟩ := D
  exact fe_call G h1 hj h2 h3 h4 ha hn hg hdb he hpl hz
theorem fe_callDR {n lv : Nat} {fn : Fn} (G : Good Xs P w K mg base N k Wx) (D : Dn P w K mg base EI x n lv fn) (hj : lv ≤ k) (i : Nat) {p0 : Pos} (ha : FA Xs K EI Wx es fa) (hz : ∀ ρ ds ρ', fa ρ = .ok ds ρ' → ds.length + 1 = n) (hn : es.length + 1 = n := by rfl) (hN : N[i]? = some y := by rfl) (hv : ∀ j, Vis (Xs j).env.scope y := by intro _; first | exact Or.inl rfl | exact Or.inr (Or.inl rfl) | exact Or.inr (Or.inr rfl))
    (h1 : (y == ("__debug__" : Str)) = false := by decide) (h2 : (y == ("__classdict__" : Str)) = false := by decide) (hg : ∀ i, Gl (Xs i) x := by intro _; rfl) (hdb : (x == ("__debug__" : Str)) = false := by decide)
    (he : ∀ i, starEach (Expr.Name y p0 :: es) (Xs i).env = (false, eval (.Name y p0) (Xs i).env) :: starEach es (Xs i).env := by intro _; rfl) (hpl : ∀ i, (backTo pos (starEach es (Xs i).env)).any (·.1) = false := by intro _; rfl) : FE Xs K EI Wx (.Call (.Name x pos') (.Name y p0 :: es) [] pos) (callR fn i fa) := by
  obtain ⟨f0, fd, ps, g1, g2, g3, g4⟩ := D
  exact fe_callR G g1 hj g2 g3 g4 i ha hn hN hv h1 h2 hg hdb he hpl hz
theorem len_succ {n : Nat} (hz : ∀ ρ ds ρ', fa ρ = .ok ds ρ' → ds.length = n) : ∀ ρ ds ρ', fa ρ = .ok ds ρ' → ds.length + 1 = n + 1 := fun ρ ds ρ' h => by rw [hz ρ ds ρ' h]

/-- truth of any data -/
def asT (f : Mo Dt) : Mo Bool := bnd f fun d => match d with
  | .none => ret false
  | .bool b => ret b
  | .int i => ret (i != 0)
  | .str x => if x.length ≤ sizeLine then ret ((x.length : Int) != 0) else bad
  | .list ds => ret (!ds.isEmpty)
  | .tuple ds => ret (!ds.isEmpty)
  | .dict _ => bad
theorem dfAll_emp {F : Hp} {vs : List V} {ds : List Dt} (h : DfAll K F vs ds) : vs.isEmpty = ds.isEmpty := by cases h <;> rfl
theorem ft_tru (G : Good Xs P w K mg base N k Wx) (ha : FE Xs K EI Wx a f) (he : ∀ i whole, isTrue a (Xs i).env whole = (do let v ← whole; standAt a.pos; holding [v] (truthy v)) := by intro _ _; rfl) : FT Xs K EI Wx a (asT f) := by
  obtain ⟨t, pa, qa⟩ := ha
  refine ⟨fun σ H Q => t σ H fun x H' => ∃ k, TruV K x H' k ∧ Q k H', fun i => ?_, fun B F H ρ σ T Q R z => ?_⟩
  · have z := pt_truth (pa i) (he i)
    rw [G.hK i] at z
    exact z
  · refine qa B F H ρ σ T _ R (z.bnd fun d ρ1 F1 H1 R1 S1 h1 v dv => ?_)
    cases dv with
    | non => exact ⟨false, rfl, h1 F1 H1 R1 (Same.refl _)⟩
    | bl b => exact ⟨b, rfl, h1 F1 H1 R1 (Same.refl _)⟩
    | int i => exact ⟨_, rfl, h1 F1 H1 R1 (Same.refl _)⟩
    | str x =>
      dsimp only at h1
      split at h1
      · rename_i hl
        exact ⟨_, ⟨hl, rfl⟩, h1 F1 H1 R1 (Same.refl _)⟩
      · exact h1.elim
    | lst g1 g2 => exact ⟨_, .inl ⟨_, .inl (.inl (R1.fro _ _ g1)), by rw [dfAll_emp g2]⟩, h1 F1 H1 R1 (Same.refl _)⟩
    | tup g1 g2 => exact ⟨_, .inr (.inl ⟨_, same_seqT R1.fro g1, by rw [dfAll_emp g2]⟩), h1 F1 H1 R1 (Same.refl _)⟩
    | frl g1 g2 => exact h1.elim
    | dkt _ _ _ => exact h1.elim
    | dkk _ _ _ => exact h1.elim

/-- try: what raises nothing -/
def noX (u : Mo Fl) : Mo Fl := fun ρ => match u ρ with
  | .exn _ _ => .stuck
  | o => o
theorem Good.nox (G : Good Xs P w K mg base N k Wx) : Good (fun i => (Xs i).nox) P w K mg base N k W0 :=
  ⟨fun i => G.hp i, fun i => G.hw i, fun i => G.hK i, fun i => G.hm i, fun i => G.hb i, fun i => G.hN i, G.nd, fun i => G.calm i, fun i => G.room i, fun i σ pins H s e s' I c => by
    have h := passL (X := (Xs i).nox) pins σ H s e s' I
    have hp : ((Xs i).nox).prog = P := G.hp i
    have hw : ((Xs i).nox).w = w := G.hw i
    rw [hp, hw] at h
    exact h c⟩
end
end DN

namespace DN
open PySem PySem.Spec L2

def ItAt (t : Bool) (h : Heap) (it a : Addr) (i : Nat) : Prop := if t then h.IsTupleIter it a i else h.IsListIter it a i
def IsSq (t : Bool) (h : Heap) (a : Addr) (items : Array Value) : Prop := if t then h.IsTuple a items else h.IsList a items
def SqB (t : Bool) (K : PySem.W.Frag) (H : Hp) (a : Addr) (xs : List V) : Prop := if t then SqT K H a xs else SqL K H a xs
def itO (t : Bool) (a : Addr) : Obj := if t then { cls := .type "tuple_iterator", data := .fields #[.ref a, .int 0 0] } else { cls := .type "list_iterator", data := .fields #[.ref a, .int 0 0] }
theorem sq_draws {prog : Program} {w : World} {A : Around} (hh : A.handled = none) (t : Bool) (it a : Addr) (hne : a ≠ it) (items : Array Value) : Draws prog w A it [it, a] items.size (fun i v => items[i]? = some v) (fun i h => ItAt t h it a i ∧ IsSq t h a items) := by
  cases t
  · exact Draws.list hh it a hne items
  · exact Draws.tuple hh it a hne items
theorem sq_begins (t : Bool) (a : Addr) (items : Array Value) : Begins (.ref a) (itO t a) (fun h => IsSq t h a items) := by
  cases t
  · exact begins_list a items
  · exact begins_tuple a items
theorem itAt_keep {t : Bool} {h h' : Heap} {it a : Addr} {i : Nat} (x : ItAt t h it a i) (e : ∀ o, h.get? it = some o → h'.get? it = some o) : ItAt t h' it a i := by
  cases t
  · exact Heap.IsListIter.at x e
  · exact Heap.IsTupleIter.at x e
theorem itAt_obj {t : Bool} {h : Heap} {it a : Addr} {i : Nat} (x : ItAt t h it a i) : ∃ o, h.get? it = some o ∧ ∀ v, o.data ≠ .cell v := by
  cases t
  · obtain ⟨o, e, _, d⟩ := (show h.IsListIter it a i from x)
    exact ⟨o, e, fun v z => by rw [d] at z; cases z⟩
  · obtain ⟨o, e, _, d⟩ := (show h.IsTupleIter it a i from x)
    exact ⟨o, e, fun v z => by rw [d] at z; cases z⟩
theorem itAt_start {t : Bool} {h : Heap} {it a : Addr} (e : h.get? it = some (itO t a)) : ItAt t h it a 0 := by
  cases t
  · exact ⟨_, e, rfl, rfl⟩
  · exact ⟨_, e, rfl, rfl⟩
theorem sqB_same {t : Bool} {K : PySem.W.Frag} {F H : Hp} {a : Addr} {xs : List V} (S : Same F H) (h : SqB t K F a xs) : SqB t K H a xs := by
  cases t
  · exact S.seq h
  · rcases h with (h | ⟨o, h⟩) | h
    · exact .inl (.inl (S _ _ h))
    · exact .inl (.inr ⟨o, S _ _ h⟩)
    · exact .inr h
section
variable {X : Cx} {pins : List (Addr × Obj)} {σ : St} {H : Hp} {s : Shared} {a : Addr} {xs ys : List V} {t : Bool}
theorem sq_inv (I : Inv X pins σ H s) (h : SqB t X.K H a xs) : ∃ its : List Value, Vals xs its ∧ IsSq t s.heap a its.toArray ∧ a < s.heap.objs.size := by
  cases t
  · obtain ⟨its, r, p, _⟩ := I.list h
    exact ⟨its, r, p.isList, p.lt⟩
  · obtain ⟨its, r, p, _⟩ := I.tuple h
    refine ⟨its, r, p, ?_⟩
    obtain ⟨o, e, _⟩ := p
    exact Heap.lt_size e
theorem sq_inj (I : Inv X pins σ H s) (h : SqB t X.K H a xs) (h' : SqB t X.K H a ys) : xs = ys := by
  cases t
  · exact I.list_inj h h'
  · exact I.tuple_inj h h'
theorem sq_obj {h : Heap} {items : Array Value} (x : IsSq t h a items) : ∃ o n, h.get? a = some o ∧ o.data = .seq items n := by
  cases t
  · obtain ⟨o, e, _, n, d⟩ := (show h.IsList a items from x)
    exact ⟨o, n, e, d⟩
  · obtain ⟨o, e, _, n, d⟩ := (show h.IsTuple a items from x)
    exact ⟨o, n, e, d⟩
end

def JZ (K : PySem.W.Frag) (t1 t2 : Bool) (a b : Addr) : It :=
  ⟨fun i H => ∃ xs ys x y, SqB t1 K H a xs ∧ SqB t2 K H b ys ∧ xs[i]? = some x ∧ ys[i]? = some y,
   fun i H v H' => ∃ T x y, v = .ref T ∧ H T = none ∧ H' = upd H T (.tup [x, y]) ∧ (∀ xs, SqB t1 K H a xs → xs[i]? = some x) ∧ ∀ ys, SqB t2 K H b ys → ys[i]? = some y,
   fun i H => ∃ xs ys, SqB t1 K H a xs ∧ SqB t2 K H b ys ∧ min xs.length ys.length = i⟩
theorem turn_z {P : Program} {w : World} {K : PySem.W.Frag} {elts : List Expr} {kk : Nat} {tpos : Pos} (t1 t2 : Bool) {a b z TI TO i1 i2 : Addr} (S : ZipSep2 z TI TO i1 i2 [i1, a] [i2, b]) : Turn P w K (.Tuple elts kk tpos) (JZ K t1 t2 a b) [z, TI, TO, i1, i2] z
    (fun i h => IsZip h z TI TO .none ∧ IsTupOf2 h TI (.ref i1) (.ref i2) ∧ (∃ x y, IsTupOf2 h TO x y) ∧ ItAt t1 h i1 a i ∧ ItAt t2 h i2 b i) where
  mem := List.mem_cons_self
  obj := fun i h st c hc => by
    obtain ⟨hz, h1, ⟨x, y, h2⟩, h3, h4⟩ := st
    simp only [List.mem_cons, List.not_mem_nil, or_false] at hc
    rcases hc with q | q | q | q | q <;> subst q
    · exact ⟨_, hz, fun v q => nomatch q⟩
    · exact ⟨_, h1, fun v q => nomatch q⟩
    · exact ⟨_, h2, fun v q => nomatch q⟩
    · exact itAt_obj h3
    · exact itAt_obj h4
  keep := fun i h h' st k => by
    obtain ⟨hz, h1, ⟨x, y, h2⟩, h3, h4⟩ := st
    exact ⟨k z (by simp) _ hz, k TI (by simp) _ h1, ⟨x, y, k TO (by simp) _ h2⟩, itAt_keep h3 fun o q => k i1 (by simp) o q, itAt_keep h4 fun o q => k i2 (by simp) o q⟩
  item := by
    intro X hP hw hK hc i pins s σ H E I hf st hg
    subst hP; subst hw; subst hK
    obtain ⟨hz, h1, ⟨x0, y0, h2⟩, h3, h4⟩ := st
    obtain ⟨xs, ys, x, y, hq1, hq2, hx, hy⟩ := hg
    obtain ⟨us, r1, sq1, _⟩ := sq_inv I hq1
    obtain ⟨ws, r2, sq2, _⟩ := sq_inv I hq2
    obtain ⟨u, hu, ru⟩ := r1.get hx
    obtain ⟨v, hv, rv⟩ := r2.get hy
    have n1 : a ≠ i1 := fun q => by
      obtain ⟨o, n, e1, d⟩ := sq_obj sq1
      cases t1
      · obtain ⟨o', e2, _, d2⟩ := (show s.heap.IsListIter i1 a i from h3)
        rw [q, e2] at e1; cases e1; rw [d2] at d; cases d
      · obtain ⟨o', e2, _, d2⟩ := (show s.heap.IsTupleIter i1 a i from h3)
        rw [q, e2] at e1; cases e1; rw [d2] at d; cases d
    have n2 : b ≠ i2 := fun q => by
      obtain ⟨o, n, e1, d⟩ := sq_obj sq2
      cases t2
      · obtain ⟨o', e2, _, d2⟩ := (show s.heap.IsListIter i2 b i from h4)
        rw [q, e2] at e1; cases e1; rw [d2] at d; cases d
      · obtain ⟨o', e2, _, d2⟩ := (show s.heap.IsTupleIter i2 b i from h4)
        rw [q, e2] at e1; cases e1; rw [d2] at d; cases d
    have W := GoesN.zip2 (prog := X.prog) (w := X.w) (A := X.A) (elts := elts) (x1 := kk) (pos := tpos) S (sq_draws (A := X.A.in1) (I.ok.hd hc) t1 i1 a n1 us.toArray) (sq_draws (A := X.A.in1) (I.ok.hd hc) t2 i2 b n2 ws.toArray)
    have hi : i < min us.toArray.size ws.toArray.size := by
      have k1 := (List.getElem?_eq_some_iff.mp hu).1
      have k2 := (List.getElem?_eq_some_iff.mp hv).1
      simp
      omega
    refine W.goes i s _ _ hi ⟨hz, h1, ⟨x0, y0, h2⟩, ⟨h3, sq1⟩, ⟨h4, sq2⟩⟩ fun vv h' tk hY st' hk _ => ?_
    obtain ⟨T, p, q, ev, hT, hp, hqq, hTup⟩ := hY
    subst ev
    have ep : p = u := by
      have hu' : us.toArray[i]? = some u := by simpa using hu
      rw [hu'] at hp
      exact (Option.some.inj hp).symm
    have eq : q = v := by
      have hv' : ws.toArray[i]? = some v := by simpa using hv
      rw [hv'] at hqq
      exact (Option.some.inj hqq).symm
    subst ep; subst eq
    have ob : ObjOk X.prog X.w (upd H T (.tup [x, y])) h' T (.tup [x, y]) := ⟨by show 2 ≤ sizeLine; decide, [p, q], .cons ru (.cons rv .nil), hTup⟩
    refine ⟨.ref T, upd H T (.tup [x, y]), I.turnedNew (t' := tk) (ch := [z, TI, TO, i1, i2]) (fun c o hb e => hk c o (fun m => hb (by
      simp only [List.mem_cons, List.not_mem_nil, or_false] at m ⊢
      rcases m with m | m | m | m <;> simp [m])) e) hf hT ob, rfl, ⟨T, x, y, rfl, I.hok.fresh hT, rfl, fun zs h => by rw [sq_inj I h hq1]; exact hx, fun zs h => by rw [sq_inj I h hq2]; exact hy⟩, ⟨st'.1, st'.2.1, st'.2.2.1, st'.2.2.2.1.1, st'.2.2.2.2.1⟩, fun c hcm => ?_⟩
    have lt : c < s.heap.objs.size := by
      have m := hcm
      simp only [List.mem_cons, List.not_mem_nil, or_false] at m
      rcases m with m | m | m | m | m <;> subst m
      · exact Heap.lt_size hz
      · exact Heap.lt_size h1
      · exact Heap.lt_size h2
      · obtain ⟨o, e, _⟩ := itAt_obj h3; exact Heap.lt_size e
      · obtain ⟨o, e, _⟩ := itAt_obj h4; exact Heap.lt_size e
    rw [upd_ne (Nat.ne_of_lt (Nat.lt_of_lt_of_le lt hT))]
    exact (hf c hcm).1
  done := by
    intro X hP hw hK hc i pins s σ H E I hf st hg
    subst hP; subst hw; subst hK
    obtain ⟨hz, h1, ⟨x0, y0, h2⟩, h3, h4⟩ := st
    obtain ⟨xs, ys, hq1, hq2, hl⟩ := hg
    obtain ⟨us, r1, sq1, _⟩ := sq_inv I hq1
    obtain ⟨ws, r2, sq2, _⟩ := sq_inv I hq2
    have n1 : a ≠ i1 := fun q => by
      obtain ⟨o, n, e1, d⟩ := sq_obj sq1
      cases t1
      · obtain ⟨o', e2, _, d2⟩ := (show s.heap.IsListIter i1 a i from h3)
        rw [q, e2] at e1; cases e1; rw [d2] at d; cases d
      · obtain ⟨o', e2, _, d2⟩ := (show s.heap.IsTupleIter i1 a i from h3)
        rw [q, e2] at e1; cases e1; rw [d2] at d; cases d
    have n2 : b ≠ i2 := fun q => by
      obtain ⟨o, n, e1, d⟩ := sq_obj sq2
      cases t2
      · obtain ⟨o', e2, _, d2⟩ := (show s.heap.IsListIter i2 b i from h4)
        rw [q, e2] at e1; cases e1; rw [d2] at d; cases d
      · obtain ⟨o', e2, _, d2⟩ := (show s.heap.IsTupleIter i2 b i from h4)
        rw [q, e2] at e1; cases e1; rw [d2] at d; cases d
    have W := GoesN.zip2 (prog := X.prog) (w := X.w) (A := X.A) (elts := elts) (x1 := kk) (pos := tpos) S (sq_draws (A := X.A.in1) (I.ok.hd hc) t1 i1 a n1 us.toArray) (sq_draws (A := X.A.in1) (I.ok.hd hc) t2 i2 b n2 ws.toArray)
    have hi : min us.toArray.size ws.toArray.size = i := by
      have k1 := r1.length
      have k2 := r2.length
      simp
      omega
    refine W.stops s _ _ (by rw [hi]; exact ⟨hz, h1, ⟨x0, y0, h2⟩, ⟨h3, sq1⟩, ⟨h4, sq2⟩⟩) fun h' tk hk _ => ?_
    exact I.turnedL (t' := tk) (ch := [z, TI, TO, i1, i2]) (fun c o hb e => hk c o (fun m => hb (by
      simp only [List.mem_cons, List.not_mem_nil, or_false] at m ⊢
      rcases m with m | m | m | m <;> simp [m])) e) hf
  self := fun A i s Q E st h => wpAny_pyIter_zip st.1 h
def iZ (K : PySem.W.Frag) (ta : TA) : TI := fun σ H R => ta σ H fun vs H1 => ∃ t1 t2 a b xs ys, vs = [.ref a, .ref b] ∧ SqB t1 K H1 a xs ∧ SqB t2 K H1 b ys ∧ R (JZ K t1 t2 a b) H1
theorem pi_z {X : Cx} {e e2 : Expr} {ta : TA} {p pos tpos : Pos} {elts : List Expr} {kk : Nat} (hg : Gl X "zip") (hm : X.mg "zip" = none) (ha : PA X [e, e2] ta) (hs : starEach [e, e2] X.env = (false, eval e X.env) :: starEach [e2] X.env) (hpl : (backTo pos (starEach [e2] X.env)).any (·.1) = false) :
    PI X (.Tuple elts kk tpos) (.Call (.Name "zip" p) [e, e2] [] pos) (iZ X.K ta) := by
  refine ⟨fun pn s σ H R I hyp => ?_⟩
  refine PyProof.Rows.Call_ (ld_blt I hg hm PyProof.Rows.boot_zip (PyProof.Rows.callWith_type1 (thn (ha.run pos pn s σ H _ I hyp) fun us s1 ⟨vs, H1, I1, r1, q1⟩ => ?_) hs hpl))
  obtain ⟨t1, t2, a, b, xs, ys, ex, hqa, hqb, q⟩ := q1
  subst ex
  cases r1 with
  | cons r rr =>
    cases rr with
    | cons r' rr =>
      cases rr
      cases r
      cases r'
      obtain ⟨us1, _, sq1, lt1⟩ := sq_inv I1 hqa
      obtain ⟨us2, _, sq2, lt2⟩ := sq_inv I1 hqb
      refine zip_begins2 (sq_begins t1 a us1.toArray) (sq_begins t2 b us2.toArray) sq1 sq2 fun h' hz hTI hTO e1 e2 hsz hk => wpAny_pyIter_zip hz ?_
      have I2 : Inv X pn σ H1 { s1 with heap := h' } := I1.kept (t' := s1.toks) hk
      refine ⟨s1.heap.objs.size + 4, [s1.heap.objs.size + 4, s1.heap.objs.size + 2, s1.heap.objs.size + 3, s1.heap.objs.size, s1.heap.objs.size + 1], _, _, H1, rfl, I2, turn_z t1 t2 (zip_sep2 (fp1 := [a]) (fp2 := [b]) (fun c hc => by rw [List.mem_singleton.mp hc]; exact lt1) (fun c hc => by rw [List.mem_singleton.mp hc]; exact lt2)), ⟨hz, hTI, ⟨_, _, hTO⟩, itAt_start e1, itAt_start e2⟩, fun c hc => ?_, q⟩
      have le : s1.heap.objs.size ≤ c := by
        simp only [List.mem_cons, List.not_mem_nil, or_false] at hc
        rcases hc with m | m | m | m | m <;> subst m
        · exact Nat.le_add_right _ _
        · exact Nat.le_add_right _ _
        · exact Nat.le_add_right _ _
        · exact Nat.le_refl _
        · exact Nat.le_add_right _ _
      exact I1.fpOk le (I1.hok.fresh le)

section
variable {ι : Type} {Xs : ι → Cx} {P : Program} {w : World} {K : PySem.W.Frag} {mg : Str → Option Value} {base : Heap} {N : List Str} {k : Nat} {Wx : WX} {EI : EIx}
variable {a b : Expr} {fa : Mo (List Dt)} {pos pos' tpos : Pos} {elts : List Expr} {kk : Nat}
/-- the items of a tuple or a list, as it stands in the heap -/
theorem sq_of {F H : Hp} (S : Same F H) {v : V} {d : Dt} {ds : List Dt} (h : Df K F v d) (e : itemsOf d = some ds) : ∃ t adr vs, v = .ref adr ∧ SqB t K H adr vs ∧ SqB t K F adr vs ∧ DfAll K F vs ds := by
  cases h with
  | lst h1 h2 => cases e; exact ⟨false, _, _, rfl, .inl (.inl (S _ _ h1)), .inl (.inl h1), h2⟩
  | tup h1 h2 => cases e; exact ⟨true, _, _, rfl, same_seqT S h1, h1.sq, h2⟩
  | dkt _ _ _ => cases e
  | dkk _ _ _ => cases e
  | frl h1 h2 => cases e; exact ⟨false, _, _, rfl, S.seq h1, h1, h2⟩
  | non => cases e
  | bl _ => cases e
  | int _ => cases e
  | str _ => cases e
def enumD : Nat → List Dt → List Dt
  | _, [] => []
  | n, d :: ds => .tuple [.int n, d] :: enumD (n + 1) ds
def zipD : List Dt → List Dt → List Dt
  | a :: as, b :: bs => .tuple [a, b] :: zipD as bs
  | _, _ => []
theorem zipD_len : ∀ (as bs : List Dt), (zipD as bs).length = min as.length bs.length
  | [], _ => by simp [zipD]
  | _ :: _, [] => by simp [zipD]
  | a :: as, b :: bs => by
    show (zipD as bs).length + 1 = _
    rw [zipD_len as bs, List.length_cons, List.length_cons]
    omega
theorem zipD_get : ∀ (as bs : List Dt) (i : Nat) (z : Dt), (zipD as bs)[i]? = some z → ∃ d e, as[i]? = some d ∧ bs[i]? = some e ∧ z = .tuple [d, e]
  | [], _, i, z, h => by simp [zipD] at h
  | _ :: _, [], i, z, h => by simp [zipD] at h
  | a :: as, b :: bs, 0, z, h => by
    have e : PyData.tuple [a, b] = z := by simpa [zipD] using h
    exact ⟨a, b, rfl, rfl, e.symm⟩
  | a :: as, b :: bs, i + 1, z, h => by
    obtain ⟨d, e, h1, h2, h3⟩ := zipD_get as bs i z (by simpa [zipD] using h)
    exact ⟨d, e, by simpa using h1, by simpa using h2, h3⟩
theorem yl_z {F : Hp} {t1 t2 : Bool} {a1 a2 : Addr} {vs ws : List V} {ds es : List Dt} (h1 : SqB t1 K F a1 vs) (h2 : SqB t2 K F a2 ws) (d1 : DfAll K F vs ds) (d2 : DfAll K F ws es) : Yields K (JZ K t1 t2 a1 a2) (zipD ds es) F := by
  intro F' H S1 S2
  have hs1 : SqB t1 K H a1 vs := sqB_same S2 (sqB_same S1 h1)
  have hs2 : SqB t2 K H a2 ws := sqB_same S2 (sqB_same S1 h2)
  refine ⟨fun i hi => ?_, fun i x H' d0 e y => ?_, ⟨vs, ws, hs1, hs2, by rw [zipD_len, dfAll_len d1, dfAll_len d2]⟩⟩
  · rw [zipD_len] at hi
    obtain ⟨v, e, _⟩ := dfAll_get d1 (List.getElem?_eq_getElem (show i < ds.length by omega))
    obtain ⟨v', e', _⟩ := dfAll_get d2 (List.getElem?_eq_getElem (show i < es.length by omega))
    exact ⟨vs, ws, v, v', hs1, hs2, e, e'⟩
  · obtain ⟨T, v, v', rfl, hT, rfl, y1, y2⟩ := y
    obtain ⟨d, e', e1, e2, e3⟩ := zipD_get ds es i d0 e
    subst e3
    obtain ⟨u1, k1, k2⟩ := dfAll_get d1 e1
    obtain ⟨u2, k3, k4⟩ := dfAll_get d2 e2
    have ev := y1 vs hs1
    rw [k1] at ev
    cases ev
    have ev2 := y2 ws hs2
    rw [k3] at ev2
    cases ev2
    have S3 : Same F' (upd F' T (.tup [v, v'])) := same_upd (S2.free hT)
    exact ⟨_, .new hT, .tup (.inl upd_same) (.cons (df_mono S3 (df_mono S1 k2)) (.cons (df_mono S3 (df_mono S1 k4)) .nil))⟩
def enO : List Dt → Option (List Dt)
  | [d] => (itemsOf d).map (enumD 0)
  | _ => none
def zO : List Dt → Option (List Dt)
  | [d, e] => (itemsOf d).bind fun xs => (itemsOf e).map fun ys => zipD xs ys
  | _ => none
theorem fi_zip (G : Good Xs P w K mg base N k Wx) (hm : mg "zip" = none) (ha : FA Xs K EI Wx [a, b] fa) (hg : ∀ i, Gl (Xs i) "zip" := by intro _; rfl) (hs : ∀ i, starEach [a, b] (Xs i).env = (false, eval a (Xs i).env) :: starEach [b] (Xs i).env := by intro _; rfl)
    (hpl : ∀ i, (backTo pos (starEach [b] (Xs i).env)).any (·.1) = false := by intro _; rfl) : FI Xs K EI Wx (.Tuple elts kk tpos) (.Call (.Name "zip" pos') [a, b] [] pos) (rngM zO fa) := by
  obtain ⟨t, pa, qa⟩ := ha
  refine ⟨iZ K t, fun i => ?_, fun B F H ρ σ T R0 R z => ?_⟩
  · have z := pi_z (elts := elts) (kk := kk) (tpos := tpos) (p := pos') (pos := pos) (hg i) (by rw [G.hm i]; exact hm) (pa i) (hs i) (hpl i)
    rw [G.hK i] at z
    exact z
  · refine qa B F H ρ σ T _ R (z.bnd fun ds ρ1 F1 H1 R1 S1 h1 vs dvs => ?_)
    obtain ⟨is, ei, q⟩ := h1.opt
    unfold zO at ei
    split at ei
    · rename_i d e
      cases ed : itemsOf d with
      | none => rw [ed] at ei; cases ei
      | some ys =>
        cases ee : itemsOf e with
        | none => rw [ed, ee] at ei; cases ei
        | some zs =>
          rw [ed, ee] at ei
          cases ei
          cases dvs with
          | cons d1 d2 =>
            cases d2 with
            | cons d2 d3 =>
              cases d3
              obtain ⟨tt, adr, us, rfl, s1, s2, s3⟩ := sq_of R1.fro d1 ed
              obtain ⟨tt2, adr2, us2, rfl, k1, k2, k3⟩ := sq_of R1.fro d2 ee
              exact ⟨tt, tt2, adr, adr2, us, us2, rfl, s1, k1, q F1 H1 R1 (Same.refl _) _ (yl_z s2 k2 s3 k3)⟩
    · cases ei

end
end DN

namespace DN
open PySem PySem.Spec L2
/-- the script as data -/
abbrev scr (ns : List Int) : Dt := .dict [(.none, .list (ns.map .int))]
/-- what a law's function must hand back -/
def FOut.isTrue : FOut → Prop
  | .ok d _ => d = .bool true
  | _ => False
theorem at0_mk {K : PySem.W.Frag} {h : Heap} {mg : Str → Option Value} (X : K.In h) (G : h.Ns mainGlobals mg) {x : Str} {st : Stmt} {f : Addr} {oc : Value} {od an : Option Addr} {osl : Array (Option Value)} {kV doc pm cdv ct : Value}
    (a : PySem.W.nsIn K mainGlobals x = some (some (.ref f))) (l : K.lookup f = some ⟨oc, od, .func (PySem.W.fnOf x x (defArgs st) (defBody st) (defScope st) .none kV doc pm an cdv ct), osl⟩)
    (c : PySem.W.codeIn K cdv x = true) (k : PySem.W.keepIn K (.ref f) = true) : At0 K mg x st := ⟨f, _, fun_mk l c k, PySem.W.mg_of X G a⟩
theorem con_mk {K : PySem.W.Frag} {h : Heap} {mg : Str → Option Value} (X : K.In h) (G : h.Ns mainGlobals mg) {x : Str} {i : Int} {t : Tok} (a : PySem.W.nsIn K mainGlobals x = some (some (.int i t))) :
    ∃ (v : V) (u : Value), mg x = some u ∧ RelV v u ∧ ∀ F, Df K F v (.int i) := ⟨.int i, .int i t, PySem.W.mg_of X G a, ⟨t, rfl⟩, fun F => .int i⟩
theorem law_cx {P : Program} {w : World} {H : Hp} {s : Shared} {e : Value} {s' : Shared} (h : L2.CX P w [] H s (fun _ _ _ => False) e s') : False := by
  obtain ⟨_, _, _, _, _, _, _, _, _, _, _, _, z⟩ := h
  exact z
theorem law_sp {K : PySem.W.Frag} {EI : EIx} {H : Hp} {a : Addr} {ns : List Int} {fn : Fn} (hS : SqL K H a (ns.map V.int)) (h : (fn [.val (scr ns)]).isTrue) :
    spD K EI 1 fn [.ref a] H (fun v _ => v = .bl true) (fun _ _ _ => False) := by
  refine ⟨H, [.val (scr ns)], [], rfl, noown [scr ns], ?_, ?_⟩
  · refine ⟨rfl, fun i d e => ?_, fun i o e => (no_own (ds := [scr ns]) e).elim, fun i j o q adr e => (no_own (ds := [scr ns]) e).elim, fun x hx => (List.not_mem_nil hx).elim, List.nodup_nil, fun i adr => ?_, Same.refl _, Same.refl _, fun b o e _ => e, fun b o e => ⟨o, e⟩, fun b o e => .inl ⟨o, e⟩⟩
    · match i, e with
      | 0, e => cases e; exact ⟨.ref a, rfl, .frl hS (ints_dpAll ns)⟩
    · constructor
      · intro z; exact (List.not_mem_nil z).elim
      · rintro ⟨o, z, _⟩; exact (no_own (ds := [scr ns]) (.inr z)).elim
  · cases e : fn [.val (scr ns)] with
    | stuck => rw [e] at h; exact h.elim
    | exn x rs => rw [e] at h; exact h.elim
    | ok d rs =>
      rw [e] at h
      intro v F' H' R S dv
      cases (h : d = .bool true)
      cases dv
      rfl
end DN

namespace DN
open PySem PySem.Spec L2

section
variable {α β : Type} {ρ ρ' : Rh}
def Out.bind (o : Out α) (k : α → Rh → Out β) : Out β := match o with
  | .ok a r => k a r
  | .exn x r => .exn x r
  | .stuck => .stuck
theorem bind_ok {a : α} {k : α → Rh → Out β} : (Out.ok a ρ).bind k = k a ρ := (rfl)
theorem bind_exn {x : Exn} {k : α → Rh → Out β} : (Out.exn x ρ : Out α).bind k = .exn x ρ := (rfl)
theorem bind_stuck {k : α → Rh → Out β} : (Out.stuck : Out α).bind k = .stuck := (rfl)
theorem bnd_ap {m : Mo α} {k : α → Mo β} : bnd m k ρ = (m ρ).bind k := (rfl)
theorem ret_ap {a : α} : ret a ρ = .ok a ρ := (rfl)
theorem bad_ap : (bad : Mo α) ρ = .stuck := (rfl)
theorem opt_some {a : α} : opt (some a) ρ = .ok a ρ := (rfl)
theorem opt_none : opt (none : Option α) ρ = .stuck := (rfl)
theorem op2_ap {o : Dt → Dt → Option Dt} {f g : Mo Dt} : op2 o f g ρ = (f ρ).bind fun d ρ => (g ρ).bind fun e ρ => opt (o d e) ρ := (rfl)
theorem op1_ap {o : Dt → Option Dt} {f : Mo Dt} : op1 o f ρ = (f ρ).bind fun d ρ => opt (o d) ρ := (rfl)
def varK (s : Option (Option Sv)) (i : Nat) (ρ : Rh) : Out Dt := match s with
  | some (some (.val d)) => .ok d ρ
  | some (some (.own o)) => .ok (obD o) (ρ.set i (some (.val (obD o))))
  | _ => .stuck
theorem var_ap {i : Nat} : var i ρ = varK ρ[i]? i ρ := (rfl)
theorem varK_val {i : Nat} {d : Dt} : varK (some (some (.val d))) i ρ = .ok d ρ := (rfl)
theorem varK_own {i : Nat} {ds : List Dt} : varK (some (some (.own (.lst ds)))) i ρ = .ok (.list ds) (ρ.set i (some (.val (.list ds)))) := (rfl)
theorem dAdd_int {i j : Int} : dAdd (.int i) (.int j) = some (.int (i + j)) := (rfl)
theorem dSub_int {i j : Int} : dSub (.int i) (.int j) = some (.int (i - j)) := (rfl)
theorem dLt_int {i j : Int} : dLt (.int i) (.int j) = some (.bool (decide (i < j))) := (rfl)
theorem dLe_int {i j : Int} : dLe (.int i) (.int j) = some (.bool (decide (i ≤ j))) := (rfl)
theorem dGt_int {i j : Int} : dGt (.int i) (.int j) = some (.bool (decide (j < i))) := (rfl)
theorem dGe_int {i j : Int} : dGe (.int i) (.int j) = some (.bool (decide (j ≤ i))) := (rfl)
theorem dFdv_int {i j : Int} (h : j ≠ 0) (h2 : j.natAbs < 1073741824) : dFdv (.int i) (.int j) = some (.int (i.fdiv j)) := by
  simp [dFdv, dII, h, h2]
theorem dMod_int {i j : Int} (h : j ≠ 0) : dMod (.int i) (.int j) = some (.int (i.fmod j)) := by
  simp [dMod, dII, h]
theorem dMulR {i j : Int} (h : -(2 ^ 64) < j) (h2 : j < 2 ^ 64) : dMul (.int i) (.int j) = some (.int (i * j)) := by
  simp only [dMul, h, h2, decide_true, Bool.and_self, Bool.or_true, if_true]
theorem dMulL {i j : Int} (h : -(2 ^ 64) < i) (h2 : i < 2 ^ 64) : dMul (.int i) (.int j) = some (.int (i * j)) := by
  simp only [dMul, h, h2, decide_true, Bool.and_self, Bool.true_or, if_true]
theorem dNeg_int {i : Int} : dNeg (.int i) = some (.int (-i)) := (rfl)
theorem pow18 : dPow (.int 10) (.int 18) = some (.int 1000000000000000000) := (rfl)
def bK (d : Dt) (ρ : Rh) : Out Bool := match d with
  | .bool b => .ok b ρ
  | _ => .stuck
theorem asB_ap {f : Mo Dt} : asB f ρ = (f ρ).bind bK := by
  unfold asB bnd Out.bind
  cases f ρ with
  | ok d r => cases d <;> rfl
  | exn _ _ => rfl
  | stuck => rfl
theorem bK_b {b : Bool} : bK (.bool b) ρ = .ok b ρ := (rfl)
theorem dIs_none {d : Dt} : dIs d .none = some (.bool (isNone d)) := by cases d <;> rfl
theorem dIsN_none {d : Dt} : dIsN d .none = some (.bool (!isNone d)) := by cases d <;> rfl
theorem dIs_b {p q : Bool} : dIs (.bool p) (.bool q) = some (.bool (decide (p = q))) := (rfl)
theorem dIsN_b {p q : Bool} : dIsN (.bool p) (.bool q) = some (.bool (!decide (p = q))) := (rfl)
theorem dEq_ii {i j : Int} : dEq (.int i) (.int j) = some (.bool (i == j)) := (rfl)
theorem dNe_ii {i j : Int} : dNe (.int i) (.int j) = some (.bool (!(i == j))) := (rfl)
theorem dEq_bb {i j : Bool} : dEq (.bool i) (.bool j) = some (.bool (i == j)) := (rfl)
theorem dNe_bb {i j : Bool} : dNe (.bool i) (.bool j) = some (.bool (!(i == j))) := (rfl)
def chK (o : Dt → Dt → Option Dt) (h : Mo Dt) (y r : Dt) (ρ : Rh) : Out Dt := match r with
  | .bool true => (h ρ).bind fun z ρ => opt (o y z) ρ
  | .bool false => .ok (.bool false) ρ
  | _ => .stuck
theorem chain_ap {o o' : Dt → Dt → Option Dt} {f g h : Mo Dt} : chain o o' f g h ρ = (f ρ).bind fun x ρ => (g ρ).bind fun y ρ => (opt (o x y) ρ).bind fun r ρ => chK o' h y r ρ := by
  unfold chain bnd Out.bind
  cases f ρ with
  | ok x r =>
    dsimp only
    cases g r with
    | ok y r =>
      dsimp only
      cases opt (o x y) r with
      | ok q r => cases q <;> try rfl
                  rename_i b
                  cases b <;> rfl
      | exn _ _ => rfl
      | stuck => rfl
    | exn _ _ => rfl
    | stuck => rfl
  | exn _ _ => rfl
  | stuck => rfl
theorem chK_b {o : Dt → Dt → Option Dt} {h : Mo Dt} {y : Dt} {b : Bool} : chK o h y (.bool b) ρ = (if b = true then (h ρ).bind fun z ρ => opt (o y z) ρ else .ok (.bool false) ρ) := by cases b <;> rfl
theorem andM_ap {p q : Mo Bool} : andM p q ρ = (p ρ).bind fun c ρ => if c = true then q ρ else .ok false ρ := by
  unfold andM bnd Out.bind
  cases p ρ with
  | ok c r => cases c <;> rfl
  | exn _ _ => rfl
  | stuck => rfl
theorem orM_ap {p q : Mo Bool} : orM p q ρ = (p ρ).bind fun c ρ => if c = true then .ok true ρ else q ρ := by
  unfold orM bnd Out.bind
  cases p ρ with
  | ok c r => cases c <;> rfl
  | exn _ _ => rfl
  | stuck => rfl
theorem notM_ap {p : Mo Bool} : notM p ρ = (p ρ).bind fun c ρ => .ok (!c) ρ := (rfl)
theorem andV_ap {f g : Mo Dt} : andV f g ρ = (f ρ).bind fun d ρ => (bK d ρ).bind fun c ρ => if c = true then g ρ else .ok (.bool false) ρ := by
  unfold andV bnd Out.bind
  cases f ρ with
  | ok d r => cases d <;> first | rfl | (rename_i b; cases b <;> rfl)
  | exn _ _ => rfl
  | stuck => rfl
theorem orV_ap {f g : Mo Dt} : orV f g ρ = (f ρ).bind fun d ρ => (bK d ρ).bind fun c ρ => if c = true then .ok (.bool true) ρ else g ρ := by
  unfold orV bnd Out.bind
  cases f ρ with
  | ok d r => cases d <;> first | rfl | (rename_i b; cases b <;> rfl)
  | exn _ _ => rfl
  | stuck => rfl
theorem notV_ap {f : Mo Dt} : notV f ρ = (f ρ).bind fun d ρ => (bK d ρ).bind fun c ρ => .ok (.bool (!c)) ρ := by
  unfold notV bnd Out.bind
  cases f ρ with
  | ok d r => cases d <;> rfl
  | exn _ _ => rfl
  | stuck => rfl
theorem iteV_ap {p : Mo Bool} {f g : Mo Dt} : iteV p f g ρ = (p ρ).bind fun c ρ => if c = true then f ρ else g ρ := by
  unfold iteV bnd Out.bind
  cases p ρ with
  | ok c r => cases c <;> rfl
  | exn _ _ => rfl
  | stuck => rfl
theorem consA_ap {f : Mo Dt} {fa : Mo (List Dt)} : consA f fa ρ = (f ρ).bind fun d ρ => (fa ρ).bind fun ds ρ => .ok (d :: ds) ρ := (rfl)
theorem tupM_ap {fa : Mo (List Dt)} : tupM fa ρ = (fa ρ).bind fun ds ρ => if ds.length ≤ sizeLine then .ok (.tuple ds) ρ else .stuck := by
  unfold tupM bnd Out.bind
  cases fa ρ with
  | ok c r => dsimp only; split <;> rfl
  | exn _ _ => rfl
  | stuck => rfl
theorem lstM_ap {fa : Mo (List Dt)} : lstM fa ρ = (fa ρ).bind fun ds ρ => if ds.length ≤ sizeLine then .ok (.lst ds) ρ else .stuck := by
  unfold lstM bnd Out.bind
  cases fa ρ with
  | ok c r => dsimp only; split <;> rfl
  | exn _ _ => rfl
  | stuck => rfl
theorem sz0 : 0 ≤ sizeLine := Nat.zero_le _
theorem sz1 : 1 ≤ sizeLine := by decide
theorem sz2 : 2 ≤ sizeLine := by decide
theorem sz3 : 3 ≤ sizeLine := by decide
theorem sz4 : 4 ≤ sizeLine := by decide
theorem sz5 : 5 ≤ sizeLine := by decide
def frK (o : Ob) (ρ : Rh) : Out Dt := .ok (obD o) ρ
theorem frz_ap {o : Mo Ob} : frz o ρ = (o ρ).bind frK := by
  unfold frz bnd Out.bind
  cases o ρ with
  | ok d r => rfl
  | exn _ _ => rfl
  | stuck => rfl
theorem frK_l {ds : List Dt} : frK (.lst ds) ρ = .ok (.list ds) ρ := (rfl)
theorem dIx_l {ds : List Dt} {i : Int} : dIx (.list ds) (.int i) = atI ds i := (rfl)
theorem dIx_t {ds : List Dt} {i : Int} : dIx (.tuple ds) (.int i) = atI ds i := (rfl)
theorem dIx_s {ds : List Dt} {i : Int} : dIx (.dict [(.none, .list ds)]) (.int i) = atI ds i := (rfl)
def oK (s : Option (Option Sv)) (e : Dt) (ρ : Rh) : Out Dt := match s, e with
  | some (some (.own (.lst ds))), .int j => opt (atI ds j) ρ
  | some (some (.arg (.lst ds))), .int j => opt (atI ds j) ρ
  | _, _ => .stuck
def isO (s : Option (Option Sv)) : Bool := match s with
  | some (some (.own (.lst _))) => true
  | some (some (.arg (.lst _))) => true
  | _ => false
theorem oIx_ap {i : Nat} {g : Mo Dt} (h : isO ρ[i]? = true) : oIx i g ρ = (g ρ).bind fun e ρ => oK ρ[i]? e ρ := by
  have e : oIx i g ρ = ownAt i g ρ := by
    unfold oIx
    unfold isO at h
    split at h
    · rename_i z; simp only [z]
    · rename_i z; simp only [z]
    · cases h
  rw [e]
  unfold ownAt bnd Out.bind
  cases g ρ with
  | ok d r => rfl
  | exn _ _ => rfl
  | stuck => rfl
theorem isO_own {ds : List Dt} : isO (some (some (.own (.lst ds)))) = true := (rfl)
theorem isO_arg {ds : List Dt} : isO (some (some (.arg (.lst ds)))) = true := (rfl)
theorem oK_own {ds : List Dt} {j : Int} : oK (some (some (.own (.lst ds)))) (.int j) ρ = opt (atI ds j) ρ := (rfl)
theorem oK_arg {ds : List Dt} {j : Int} : oK (some (some (.arg (.lst ds)))) (.int j) ρ = opt (atI ds j) ρ := (rfl)
def pK (d : Dt) (ρ : Rh) : Out (Option Int) := match d with
  | .int i => .ok (some i) ρ
  | _ => .stuck
theorem partM_ap {f : Mo Dt} : partM f ρ = (f ρ).bind pK := by
  unfold partM bnd Out.bind
  cases f ρ with
  | ok d r => cases d <;> rfl
  | exn _ _ => rfl
  | stuck => rfl
theorem pK_i {i : Int} : pK (.int i) ρ = .ok (some i) ρ := (rfl)
theorem sliceM_ap {f : Mo Dt} {fl fh : Mo (Option Int)} : sliceM f fl fh ρ = (f ρ).bind fun d ρ => (fl ρ).bind fun l ρ => (fh ρ).bind fun u ρ => opt (dSl d l u) ρ := (rfl)
theorem dSl_l {ds : List Dt} {l h : Option Int} : dSl (.list ds) l h = some (.list (cutL ds l h)) := (rfl)
theorem dSl_t {ds : List Dt} {l h : Option Int} : dSl (.tuple ds) l h = some (.tuple (cutL ds l h)) := (rfl)
theorem callB_ap {o : List Dt → Option Dt} {fa : Mo (List Dt)} : callB o fa ρ = (fa ρ).bind fun ds ρ => opt (o ds) ρ := (rfl)
theorem dLen_l {ds : List Dt} : dLen [.list ds] = some (.int ds.length) := (rfl)
theorem dLen_t {ds : List Dt} : dLen [.tuple ds] = some (.int ds.length) := (rfl)
theorem dLen_s {ds : List Dt} : dLen [.dict [(.none, .list ds)]] = some (.int ds.length) := (rfl)
def oLK (s : Option (Option Sv)) (ρ : Rh) : Out Dt := match s with
  | some (some (.own (.lst ds))) => .ok (.int ds.length) ρ
  | some (some (.arg (.lst ds))) => .ok (.int ds.length) ρ
  | _ => .stuck
theorem oLen_ap {i : Nat} : oLen i ρ = oLK ρ[i]? ρ := (rfl)
theorem oLK_own {ds : List Dt} : oLK (some (some (.own (.lst ds)))) ρ = .ok (.int ds.length) ρ := (rfl)
theorem oLK_arg {ds : List Dt} : oLK (some (some (.arg (.lst ds)))) ρ = .ok (.int ds.length) ρ := (rfl)
theorem dInt_i {i : Int} : dInt [.int i] = some (.int i) := (rfl)
theorem dTup_l {ds : List Dt} : dTup [.list ds] = some (.tuple ds) := (rfl)
theorem dTup_t {ds : List Dt} : dTup [.tuple ds] = some (.tuple ds) := (rfl)
theorem dAbs_i {i : Int} : dAbs [.int i] = some (.int (if i < 0 then -i else i)) := (rfl)
def liK (d : Dt) (ρ : Rh) : Out Ob := match d with
  | .list ds => .ok (.lst ds) ρ
  | .tuple ds => .ok (.lst ds) ρ
  | _ => .stuck
theorem lisM_ap {f : Mo Dt} : lisM f ρ = (f ρ).bind liK := by
  unfold lisM bnd Out.bind
  cases f ρ with
  | ok d r => cases d <;> rfl
  | exn _ _ => rfl
  | stuck => rfl
theorem liK_l {ds : List Dt} : liK (.list ds) ρ = .ok (.lst ds) ρ := (rfl)
theorem liK_t {ds : List Dt} : liK (.tuple ds) ρ = .ok (.lst ds) ρ := (rfl)
def FOut.call (o : FOut) (ρ : Rh) : Out Dt := match o with
  | .ok d _ => .ok d ρ
  | .exn x _ => .exn x ρ
  | .stuck => .stuck
theorem callM_ap {fn : Fn} {fa : Mo (List Dt)} : callM fn fa ρ = (fa ρ).bind fun ds ρ => (fn (ds.map .val)).call ρ := (rfl)
theorem call_ok {d : Dt} {rs : List Sv} : (FOut.ok d rs).call ρ = .ok d ρ := (rfl)
def gO (s : Option (Option Sv)) : Option Ob := match s with
  | some (some (.own o)) => some o
  | some (some (.arg o)) => some o
  | _ => none
theorem getO_ap {i : Nat} : getO i ρ = gO ρ[i]? := (rfl)
theorem gO_own {o : Ob} : gO (some (some (.own o))) = some o := (rfl)
theorem gO_arg {o : Ob} : gO (some (some (.arg o))) = some o := (rfl)
def puK (s : Option (Option Sv)) (i : Nat) (o : Ob) (ρ : Rh) : Rh := match s with
  | some (some (.own _)) => ρ.set i (some (.own o))
  | some (some (.arg _)) => ρ.set i (some (.arg o))
  | _ => ρ
theorem putR_ap {i : Nat} {o : Ob} : putR i o ρ = puK ρ[i]? i o ρ := (rfl)
theorem puK_own {i : Nat} {o q : Ob} : puK (some (some (.own q))) i o ρ = ρ.set i (some (.own o)) := (rfl)
theorem puK_arg {i : Nat} {o q : Ob} : puK (some (some (.arg q))) i o ρ = ρ.set i (some (.arg o)) := (rfl)
def FOut.callR (o : FOut) (i : Nat) (ρ : Rh) : Out Dt := match o with
  | .ok d (.arg o' :: _) => .ok d (putR i o' ρ)
  | .exn x (.arg o' :: _) => .exn x (putR i o' ρ)
  | _ => .stuck
theorem fcallR_ok {d : Dt} {o : Ob} {rs : List Sv} {i : Nat} : (FOut.ok d (.arg o :: rs)).callR i ρ = .ok d (putR i o ρ) := (rfl)
def cRK (s : Option Ob) (fn : Fn) (i : Nat) (ds : List Dt) (ρ : Rh) : Out Dt := match s with
  | some o => (fn (.arg o :: ds.map .val)).callR i ρ
  | none => .stuck
theorem cRK_s {o : Ob} {fn : Fn} {i : Nat} {ds : List Dt} : cRK (some o) fn i ds ρ = (fn (.arg o :: ds.map .val)).callR i ρ := (rfl)
theorem callR_ap {fn : Fn} {i : Nat} {fa : Mo (List Dt)} (h : (getO i ρ).isSome = true) : callR fn i fa ρ = (fa ρ).bind fun ds ρ => cRK (getO i ρ) fn i ds ρ := by
  obtain ⟨o, e⟩ := Option.isSome_iff_exists.mp h
  unfold callR bnd Out.bind
  simp only [e]
  cases fa ρ with
  | ok ds r =>
    dsimp only
    cases getO i r with
    | none => rfl
    | some o => rfl
  | exn _ _ => rfl
  | stuck => rfl
def pS (s : Option (Option Sv)) (i : Nat) (x : Sv) (ρ : Rh) : Out Unit := match s with
  | some (some (.arg _)) => .stuck
  | some _ => .ok () (ρ.set i (some x))
  | none => .stuck
theorem putS_ap {i : Nat} {x : Sv} : putS i x ρ = pS ρ[i]? i x ρ := (rfl)
theorem pS_none {i : Nat} {x : Sv} : pS (some none) i x ρ = .ok () (ρ.set i (some x)) := (rfl)
theorem pS_val {i : Nat} {x : Sv} {d : Dt} : pS (some (some (.val d))) i x ρ = .ok () (ρ.set i (some x)) := (rfl)
theorem pS_own {i : Nat} {x : Sv} {o : Ob} : pS (some (some (.own o))) i x ρ = .ok () (ρ.set i (some x)) := (rfl)
def Out.seq (o : Out Fl) (v : Mo Fl) : Out Fl := match o with
  | .ok .nx ρ => v ρ
  | o => o
theorem seqM_ap {u v : Mo Fl} : seqM u v ρ = (u ρ).seq v := (rfl)
theorem seq_nx {v : Mo Fl} : (Out.ok Fl.nx ρ).seq v = v ρ := (rfl)
theorem seq_rt {v : Mo Fl} {d : Dt} : (Out.ok (Fl.rt d) ρ).seq v = .ok (.rt d) ρ := (rfl)
theorem seq_bk {v : Mo Fl} : (Out.ok Fl.bk ρ).seq v = .ok .bk ρ := (rfl)
theorem seq_ct {v : Mo Fl} : (Out.ok Fl.ct ρ).seq v = .ok .ct ρ := (rfl)
theorem done_ap : done ρ = .ok .nx ρ := (rfl)
theorem exprM_ap {f : Mo Dt} : exprM f ρ = (f ρ).bind fun _ ρ => .ok .nx ρ := (rfl)
theorem retM_ap {f : Mo Dt} : retM f ρ = (f ρ).bind fun d ρ => .ok (.rt d) ρ := (rfl)
theorem ifM_ap {p : Mo Bool} {u v : Mo Fl} : ifM p u v ρ = (p ρ).bind fun c ρ => if c = true then u ρ else v ρ := by
  unfold ifM bnd Out.bind
  cases p ρ with
  | ok c r => cases c <;> rfl
  | exn _ _ => rfl
  | stuck => rfl
theorem setM_ap {i : Nat} {f : Mo Dt} : setM i f ρ = (f ρ).bind fun d ρ => (putS i (.val d) ρ).bind fun _ ρ => .ok .nx ρ := (rfl)
theorem setO_ap {i : Nat} {f : Mo Ob} : setO i f ρ = (f ρ).bind fun d ρ => (putS i (.own d) ρ).bind fun _ ρ => .ok .nx ρ := (rfl)
def Out.asg (o : Out Unit) : Out Fl := match o with
  | .ok _ ρ => .ok .nx ρ
  | _ => .stuck
theorem asg_ok : (Out.ok () ρ).asg = .ok .nx ρ := (rfl)
theorem asgM_ap {f : Mo Dt} {g : Dt → Mo Unit} : asgM f g ρ = (f ρ).bind fun d ρ => (g d ρ).asg := (rfl)
theorem xE_ap {f : Mo Dt} : xE f ρ = (f ρ).bind fun d ρ => .ok (.val d) ρ := (rfl)
theorem xO_ap {f : Mo Ob} : xO f ρ = (f ρ).bind fun d ρ => .ok (.own d) ρ := (rfl)
theorem parM_ap {i j : Nat} {f g : Mo Sv} {s r : Sv} {ρ1 ρ2 ρ3 ρ4 : Rh} (h1 : f ρ = .ok s ρ1) (h2 : g ρ1 = .ok r ρ2) (h3 : isArg s = false) (h4 : isArg r = false) (h5 : putS j r ρ2 = .ok () ρ3) (h6 : putS i s ρ3 = .ok () ρ4) : parM i j f g ρ = .ok .nx ρ4 := by
  unfold parM
  simp only [h1, h2, h3, h4, h5, h6]
  rfl
def auI (n : Int) (i : Nat) (d : Dt) (ρ : Rh) : Out Fl := match d with
    | .int m => (putS i (.val (.int (n + m))) ρ).bind fun _ ρ => .ok .nx ρ
    | _ => .stuck
theorem auI_i {n m : Int} {i : Nat} : auI n i (.int m) ρ = (putS i (.val (.int (n + m))) ρ).bind fun _ ρ => .ok .nx ρ := (rfl)
def pxN (n : Option Nat) (d : Dt) (i : Nat) (ds : List Dt) (ρ : Rh) : Out Fl := match n with
  | some n => .ok .nx (putR i (.lst (ds.set n d)) ρ)
  | none => .stuck
theorem pxN_s {n : Nat} {d : Dt} {i : Nat} {ds : List Dt} : pxN (some n) d i ds ρ = .ok .nx (putR i (.lst (ds.set n d)) ρ) := (rfl)
def pxK (s : Option Ob) (d e : Dt) (i : Nat) (ρ : Rh) : Out Fl := match s, e with
  | some (.lst ds), .int j => pxN (ixN ds.length j) d i ds ρ
  | _, _ => .stuck
theorem pxK_s {ds : List Dt} {d : Dt} {i : Nat} {j : Int} : pxK (some (.lst ds)) d (.int j) i ρ = pxN (ixN ds.length j) d i ds ρ := (rfl)
def pxG (s : Option Ob) (g : Mo Dt) (d : Dt) (i : Nat) (ρ : Rh) : Out Fl := match s with
  | none => .stuck
  | some _ => (g ρ).bind fun e ρ => pxK (getO i ρ) d e i ρ
theorem pxG_s {o : Ob} {g : Mo Dt} {d : Dt} {i : Nat} : pxG (some o) g d i ρ = (g ρ).bind fun e ρ => pxK (getO i ρ) d e i ρ := (rfl)
theorem putIx_ap {i : Nat} {f g : Mo Dt} : putIx i f g ρ = (f ρ).bind fun d ρ => pxG (getO i ρ) g d i ρ := by
  unfold putIx bnd Out.bind
  cases f ρ with
  | ok d r =>
    dsimp only
    cases getO i r with
    | none => rfl
    | some o =>
      unfold pxG Out.bind
      dsimp only
      cases g r with
      | ok e r =>
        dsimp only
        cases getO i r with
        | none => rfl
        | some o => cases o <;> cases e <;> first | rfl | (unfold pxK pxN; dsimp only)
      | exn _ _ => rfl
      | stuck => rfl
  | exn _ _ => rfl
  | stuck => rfl
def apK (s : Option Ob) (d : Dt) (i : Nat) (ρ : Rh) : Out Fl := match s with
  | some (.lst ds) => if ds.length < sizeLine then .ok .nx (putR i (.lst (ds ++ [d])) ρ) else .stuck
  | _ => .stuck
theorem apK_s {ds : List Dt} {d : Dt} {i : Nat} (h : ds.length ≤ 1000) : apK (some (.lst ds)) d i ρ = .ok .nx (putR i (.lst (ds ++ [d])) ρ) := by
  unfold apK
  simp only [small1000 h, if_true]
def isLs (s : Option Ob) : Bool := match s with
  | some (.lst _) => true
  | _ => false
theorem isLs_s {ds : List Dt} : isLs (some (.lst ds)) = true := (rfl)
theorem appM_ap {i : Nat} {f : Mo Dt} (h : isLs (getO i ρ) = true) : appM i f ρ = (f ρ).bind fun d ρ => apK (getO i ρ) d i ρ := by
  unfold appM bnd Out.bind
  unfold isLs at h
  split at h
  · rename_i z
    simp only [z]
    cases f ρ with
    | ok d r => rfl
    | exn _ _ => rfl
    | stuck => rfl
  · cases h
theorem items_l {ds : List Dt} : itemsOf (.list ds) = some ds := (rfl)
theorem items_t {ds : List Dt} : itemsOf (.tuple ds) = some ds := (rfl)
theorem items_s {ds : List Dt} : itemsOf (.dict [(.none, .list ds)]) = some ds := (rfl)
theorem iterM_ap {f : Mo Dt} : iterM f ρ = (f ρ).bind fun d ρ => opt (itemsOf d) ρ := (rfl)
theorem rngM_ap {o : List Dt → Option (List Dt)} {fa : Mo (List Dt)} : rngM o fa ρ = (fa ρ).bind fun ds ρ => opt (o ds) ρ := (rfl)
theorem enO_ap {d : Dt} : enO [d] = (itemsOf d).map (enumD 0) := (rfl)
theorem zO_ap {d e : Dt} : zO [d, e] = (itemsOf d).bind fun xs => (itemsOf e).map fun ys => zipD xs ys := (rfl)
theorem forM_ap {it : Mo (List Dt)} {g : Dt → Mo Unit} {b : Mo Fl} : forM it g b ρ = (it ρ).bind fun ds ρ => forL g b ds ρ := (rfl)
def Out.nox (o : Out Fl) : Out Fl := match o with
  | .exn _ _ => .stuck
  | o => o
theorem noX_ap {u : Mo Fl} : noX u ρ = (u ρ).nox := (rfl)
theorem nox_ok {f : Fl} : (Out.ok f ρ).nox = .ok f ρ := (rfl)
def tK (d : Dt) (ρ : Rh) : Out Bool := match d with
  | .none => .ok false ρ
  | .bool b => .ok b ρ
  | .int i => .ok (i != 0) ρ
  | .str x => if x.length ≤ sizeLine then .ok ((x.length : Int) != 0) ρ else .stuck
  | .list ds => .ok (!ds.isEmpty) ρ
  | .tuple ds => .ok (!ds.isEmpty) ρ
  | .dict _ => .stuck
theorem asT_ap {f : Mo Dt} : asT f ρ = (f ρ).bind tK := by
  unfold asT bnd Out.bind
  cases f ρ with
  | ok d r => cases d <;> first | rfl | (unfold tK; dsimp only; split <;> rfl)
  | exn _ _ => rfl
  | stuck => rfl
theorem tK_b {b : Bool} : tK (.bool b) ρ = .ok b ρ := (rfl)
theorem tK_n : tK .none ρ = .ok false ρ := (rfl)
theorem tK_i {i : Int} : tK (.int i) ρ = .ok (i != 0) ρ := (rfl)
theorem tK_l {ds : List Dt} : tK (.list ds) ρ = .ok (!ds.isEmpty) ρ := (rfl)
theorem tK_t {ds : List Dt} : tK (.tuple ds) ρ = .ok (!ds.isEmpty) ρ := (rfl)
theorem tupG_t {f : List Dt → Mo Unit} {ds : List Dt} : tupG f (.tuple ds) = f ds := (rfl)
theorem consG_c {i : Nat} {f : List Dt → Mo Unit} {d : Dt} {ds : List Dt} : consG i f (d :: ds) ρ = (putS i (.val d) ρ).bind fun _ ρ => f ds ρ := (rfl)
theorem nilG_n : nilG [] ρ = .ok () ρ := (rfl)
theorem yes_ap : yes ρ = .ok true ρ := (rfl)
def Out.fin (o : Out Fl) (rs : List Sv) : FOut := match o with
  | .ok .nx ρ => .ok .none (backs rs ρ)
  | .ok (.rt d) ρ => .ok d (backs rs ρ)
  | .ok _ _ => .stuck
  | .exn x ρ => .exn x (backs rs ρ)
  | .stuck => .stuck
theorem fnD_ap {n : Nat} {b : Mo Fl} {rs : List Sv} : fnD n b rs = (b (rs.map some ++ List.replicate (n - rs.length) none)).fin rs := (rfl)
theorem fin_nx {rs : List Sv} : (Out.ok Fl.nx ρ).fin rs = .ok .none (backs rs ρ) := (rfl)
theorem fin_rt {rs : List Sv} {d : Dt} : (Out.ok (Fl.rt d) ρ).fin rs = .ok d (backs rs ρ) := (rfl)
theorem backs_n {ρ : Rh} : backs [] ρ = [] := (rfl)
theorem backs_c {r : Sv} {rs : List Sv} {x : Option Sv} {xs : Rh} : backs (r :: rs) (x :: xs) = pick r x :: backs rs xs := (rfl)
theorem pick_v {d : Dt} {x : Option Sv} : pick (.val d) x = .val d := (rfl)
theorem pick_a {o q : Ob} : pick (.arg o) (some (.arg q)) = .arg q := (rfl)
theorem isiM_ap {T : String} {f : Mo Dt} : isiM T f ρ = (f ρ).bind fun d ρ => opt ((kitB (kindOf d) T).map .bool) ρ := (rfl)
theorem isi2M_ap {S T : String} {f : Mo Dt} : isi2M S T f ρ = (f ρ).bind fun d ρ => opt ((kitB (kindOf d) S).bind fun b => (kitB (kindOf d) T).map fun c => .bool (b || c)) ρ := (rfl)
theorem typM_ap {T : String} {f : Mo Dt} : typM T f ρ = (f ρ).bind fun d ρ => if isDt d = true then .stuck else .ok (.bool (decide (kindOf d = T))) ρ := by
  unfold typM bnd Out.bind
  cases f ρ with
  | ok d r => dsimp only; split <;> rfl
  | exn _ _ => rfl
  | stuck => rfl
theorem isDt_n : isDt .none = false := (rfl)
theorem isDt_i {i : Int} : isDt (.int i) = false := (rfl)
theorem isDt_b {b : Bool} : isDt (.bool b) = false := (rfl)
theorem isDt_s {x : Str} : isDt (.str x) = false := (rfl)
theorem isDt_t {ds : List Dt} : isDt (.tuple ds) = false := (rfl)
theorem isDt_l {ds : List Dt} : isDt (.list ds) = false := (rfl)
end
end DN

namespace DN
open PySem PySem.Spec L2

theorem atI_ofNat {α : Type} {xs : List α} {j : Nat} {x : α} (h : xs[j]? = some x) : atI xs (j : Int) = some x := by
  have hl : j < xs.length := by
    rcases Nat.lt_or_ge j xs.length with z | z
    · exact z
    · rw [List.getElem?_eq_none z] at h; cases h
  unfold atI ixN
  rw [if_pos (by omega), if_pos (by omega)]
  simpa using h
@[simp] theorem ixN4_0 : ixN 4 0 = some 0 := rfl
@[simp] theorem ixN4_1 : ixN 4 1 = some 1 := rfl
@[simp] theorem ixN4_2 : ixN 4 2 = some 2 := rfl
@[simp] theorem ixN4_3 : ixN 4 3 = some 3 := rfl
@[simp] theorem atI4_0 {α : Type} (a b c d : α) : atI [a, b, c, d] 0 = some a := rfl
@[simp] theorem atI4_1 {α : Type} (a b c d : α) : atI [a, b, c, d] 1 = some b := rfl
@[simp] theorem atI4_2 {α : Type} (a b c d : α) : atI [a, b, c, d] 2 = some c := rfl
@[simp] theorem atI4_3 {α : Type} (a b c d : α) : atI [a, b, c, d] 3 = some d := rfl

def bd_taken : Mo Fl := (seqM (ifM (asB (op2 dGt (oIx 0 (ret (.int 3))) (ret (.int 0)))) (seqM (setM 3 (op2 dMod (callB dInt (consA (oIx 0 (ret (.int 3))) (ret []))) (var 1)))
    (seqM (putIx 0 (op2 dFdv (oIx 0 (ret (.int 3))) (var 1)) (ret (.int 3)))
    (retM (var 3)))) done)
    (seqM (putIx 0 (op2 dAdd (oIx 0 (ret (.int 1))) (ret (.int 1))) (ret (.int 1)))
    (seqM (ifM (asB (op2 dGt (oIx 0 (ret (.int 1))) (callB dLen (consA (oIx 0 (ret (.int 0))) (ret []))))) (seqM (putIx 0 (op2 dMod (callB dInt (consA (op2 dAdd (op2 dMul (oIx 0 (ret (.int 2))) (ret (.int 48271))) (ret (.int 11))) (ret []))) (ret (.int 2147483647))) (ret (.int 2)))
    (retM (op2 dMod (callB dInt (consA (op2 dFdv (oIx 0 (ret (.int 2))) (ret (.int 7))) (ret []))) (var 1)))) done)
    (seqM (setM 2 (op2 dIx (oIx 0 (ret (.int 0))) (op2 dSub (oIx 0 (ret (.int 1))) (ret (.int 1)))))
    (seqM (putIx 0 (op2 dMod (callB dInt (consA (op2 dAdd (op2 dAdd (op2 dMul (oIx 0 (ret (.int 2))) (ret (.int 48271))) (var 2)) (ret (.int 11))) (ret []))) (ret (.int 2147483647))) (ret (.int 2)))
    (seqM (ifM (asB (op2 dGe (var 2) (op2 dPow (ret (.int 10)) (ret (.int 18))))) (putIx 0 (op2 dFdv (var 2) (var 1)) (ret (.int 3))) done)
    (retM (op2 dMod (callB dInt (consA (var 2) (ret []))) (var 1)))))))))
def fn_taken : Fn := fnD 4 bd_taken
/-- the row of the draw -/
def Rw (r : List Dt) : Prop := ∃ (ns : List Int) (p : Nat) (s b : Int), r = [scr ns, .int p, .int s, .int b]
theorem taken_ok {r : List Dt} (h : Rw r) {m : Int} (h0 : 0 < m) (h1 : m < 1073741824) : ∃ (v : Int) (r' : List Dt), 0 ≤ v ∧ v < m ∧ Rw r' ∧ fn_taken [.arg (.lst r), .val (.int m)] = .ok (.int v) [.arg (.lst r'), .val (.int m)] := by
  obtain ⟨ns, p, s, b, rfl⟩ := h
  have hm : m ≠ 0 := by omega
  have hm2 : m.natAbs < 1073741824 := by omega
  have hv : ∀ i : Int, 0 ≤ i.fmod m ∧ i.fmod m < m := fun i => ⟨Int.fmod_nonneg_of_pos _ h0, Int.fmod_lt_of_pos _ h0⟩
  by_cases c : 0 < b
  · refine ⟨b.fmod m, [scr ns, .int p, .int s, .int (b.fdiv m)], (hv b).1, (hv b).2, ⟨ns, p, s, _, rfl⟩, ?_⟩
    unfold fn_taken bd_taken
    simp (implicitDefEqProofs := false) [bind_ok, bind_exn, bind_stuck, bnd_ap, ret_ap, bad_ap, opt_some, opt_none, op2_ap, op1_ap, var_ap, varK_val, varK_own, dAdd_int, dSub_int, dLt_int, dLe_int, dGt_int, dGe_int, dFdv_int, dMod_int, dMulR, dMulL, dNeg_int, pow18, asB_ap, bK_b, dIs_none, dIsN_none, dIs_b, dIsN_b, isNone, dEq_ii, dNe_ii, dEq_bb, dNe_bb, chain_ap, chK_b, andM_ap, orM_ap, notM_ap, andV_ap, orV_ap, notV_ap, iteV_ap, consA_ap, tupM_ap, lstM_ap, sz0, sz1, sz2, sz3, sz4, sz5, frz_ap, frK_l, dIx_l, dIx_t, dIx_s, oIx_ap, isO_own, isO_arg, oK_own, oK_arg, partM_ap, pK_i, sliceM_ap, dSl_l, dSl_t, callB_ap, dLen_l, dLen_t, dLen_s, oLen_ap, oLK_own, oLK_arg, dInt_i, dTup_l, dTup_t, dAbs_i, lisM_ap, liK_l, liK_t, callM_ap, call_ok, getO_ap, gO_own, gO_arg, putR_ap, puK_own, puK_arg, fcallR_ok, cRK_s, callR_ap, putS_ap, pS_none, pS_val, pS_own, seqM_ap, seq_nx, seq_rt, seq_bk, seq_ct, done_ap, exprM_ap, retM_ap, ifM_ap, setM_ap, setO_ap, asg_ok, asgM_ap, xE_ap, xO_ap, auI_i, pxN_s, pxK_s, pxG_s, putIx_ap, apK_s, isLs_s, appM_ap, items_l, items_t, items_s, iterM_ap, rngM_ap, enO_ap, zO_ap, noX_ap, nox_ok, asT_ap, tK_b, tK_n, tK_i, tK_l, tK_t, tupG_t, consG_c, nilG_n, yes_ap, fnD_ap, fin_nx, fin_rt, backs_n, backs_c, pick_v, pick_a, isiM_ap, isi2M_ap, typM_ap, isDt_n, isDt_i, isDt_b, isDt_s, isDt_t, isDt_l, c, hm, hm2]
  · by_cases c2 : p < ns.length
    · obtain ⟨z, hz⟩ : ∃ z, ns[p]? = some z := ⟨_, List.getElem?_eq_getElem c2⟩
      have hz2 : atI (ns.map PyData.int) (p : Int) = some (.int z) := atI_ofNat (by rw [List.getElem?_map, hz]; rfl)
      have c3 : ¬ ((ns.length : Int) < (p : Int) + 1) := by omega
      by_cases c4 : 1000000000000000000 ≤ z
      · refine ⟨z.fmod m, _, (hv _).1, (hv _).2, ⟨ns, p + 1, (s * 48271 + z + 11).fmod 2147483647, z.fdiv m, rfl⟩, ?_⟩
        unfold fn_taken bd_taken
        simp (implicitDefEqProofs := false) [bind_ok, bind_exn, bind_stuck, bnd_ap, ret_ap, bad_ap, opt_some, opt_none, op2_ap, op1_ap, var_ap, varK_val, varK_own, dAdd_int, dSub_int, dLt_int, dLe_int, dGt_int, dGe_int, dFdv_int, dMod_int, dMulR, dMulL, dNeg_int, pow18, asB_ap, bK_b, dIs_none, dIsN_none, dIs_b, dIsN_b, isNone, dEq_ii, dNe_ii, dEq_bb, dNe_bb, chain_ap, chK_b, andM_ap, orM_ap, notM_ap, andV_ap, orV_ap, notV_ap, iteV_ap, consA_ap, tupM_ap, lstM_ap, sz0, sz1, sz2, sz3, sz4, sz5, frz_ap, frK_l, dIx_l, dIx_t, dIx_s, oIx_ap, isO_own, isO_arg, oK_own, oK_arg, partM_ap, pK_i, sliceM_ap, dSl_l, dSl_t, callB_ap, dLen_l, dLen_t, dLen_s, oLen_ap, oLK_own, oLK_arg, dInt_i, dTup_l, dTup_t, dAbs_i, lisM_ap, liK_l, liK_t, callM_ap, call_ok, getO_ap, gO_own, gO_arg, putR_ap, puK_own, puK_arg, fcallR_ok, cRK_s, callR_ap, putS_ap, pS_none, pS_val, pS_own, seqM_ap, seq_nx, seq_rt, seq_bk, seq_ct, done_ap, exprM_ap, retM_ap, ifM_ap, setM_ap, setO_ap, asg_ok, asgM_ap, xE_ap, xO_ap, auI_i, pxN_s, pxK_s, pxG_s, putIx_ap, apK_s, isLs_s, appM_ap, items_l, items_t, items_s, iterM_ap, rngM_ap, enO_ap, zO_ap, noX_ap, nox_ok, asT_ap, tK_b, tK_n, tK_i, tK_l, tK_t, tupG_t, consG_c, nilG_n, yes_ap, fnD_ap, fin_nx, fin_rt, backs_n, backs_c, pick_v, pick_a, isiM_ap, isi2M_ap, typM_ap, isDt_n, isDt_i, isDt_b, isDt_s, isDt_t, isDt_l, c, hm, hm2, c3, hz2, c4]
      · refine ⟨z.fmod m, _, (hv _).1, (hv _).2, ⟨ns, p + 1, (s * 48271 + z + 11).fmod 2147483647, b, rfl⟩, ?_⟩
        unfold fn_taken bd_taken
        simp (implicitDefEqProofs := false) [bind_ok, bind_exn, bind_stuck, bnd_ap, ret_ap, bad_ap, opt_some, opt_none, op2_ap, op1_ap, var_ap, varK_val, varK_own, dAdd_int, dSub_int, dLt_int, dLe_int, dGt_int, dGe_int, dFdv_int, dMod_int, dMulR, dMulL, dNeg_int, pow18, asB_ap, bK_b, dIs_none, dIsN_none, dIs_b, dIsN_b, isNone, dEq_ii, dNe_ii, dEq_bb, dNe_bb, chain_ap, chK_b, andM_ap, orM_ap, notM_ap, andV_ap, orV_ap, notV_ap, iteV_ap, consA_ap, tupM_ap, lstM_ap, sz0, sz1, sz2, sz3, sz4, sz5, frz_ap, frK_l, dIx_l, dIx_t, dIx_s, oIx_ap, isO_own, isO_arg, oK_own, oK_arg, partM_ap, pK_i, sliceM_ap, dSl_l, dSl_t, callB_ap, dLen_l, dLen_t, dLen_s, oLen_ap, oLK_own, oLK_arg, dInt_i, dTup_l, dTup_t, dAbs_i, lisM_ap, liK_l, liK_t, callM_ap, call_ok, getO_ap, gO_own, gO_arg, putR_ap, puK_own, puK_arg, fcallR_ok, cRK_s, callR_ap, putS_ap, pS_none, pS_val, pS_own, seqM_ap, seq_nx, seq_rt, seq_bk, seq_ct, done_ap, exprM_ap, retM_ap, ifM_ap, setM_ap, setO_ap, asg_ok, asgM_ap, xE_ap, xO_ap, auI_i, pxN_s, pxK_s, pxG_s, putIx_ap, apK_s, isLs_s, appM_ap, items_l, items_t, items_s, iterM_ap, rngM_ap, enO_ap, zO_ap, noX_ap, nox_ok, asT_ap, tK_b, tK_n, tK_i, tK_l, tK_t, tupG_t, consG_c, nilG_n, yes_ap, fnD_ap, fin_nx, fin_rt, backs_n, backs_c, pick_v, pick_a, isiM_ap, isi2M_ap, typM_ap, isDt_n, isDt_i, isDt_b, isDt_s, isDt_t, isDt_l, c, hm, hm2, c3, hz2, c4]
    · have c3 : (ns.length : Int) < (p : Int) + 1 := by omega
      refine ⟨(((s * 48271 + 11).fmod 2147483647).fdiv 7).fmod m, _, (hv _).1, (hv _).2, ⟨ns, p + 1, (s * 48271 + 11).fmod 2147483647, b, rfl⟩, ?_⟩
      unfold fn_taken bd_taken
      simp (implicitDefEqProofs := false) [bind_ok, bind_exn, bind_stuck, bnd_ap, ret_ap, bad_ap, opt_some, opt_none, op2_ap, op1_ap, var_ap, varK_val, varK_own, dAdd_int, dSub_int, dLt_int, dLe_int, dGt_int, dGe_int, dFdv_int, dMod_int, dMulR, dMulL, dNeg_int, pow18, asB_ap, bK_b, dIs_none, dIsN_none, dIs_b, dIsN_b, isNone, dEq_ii, dNe_ii, dEq_bb, dNe_bb, chain_ap, chK_b, andM_ap, orM_ap, notM_ap, andV_ap, orV_ap, notV_ap, iteV_ap, consA_ap, tupM_ap, lstM_ap, sz0, sz1, sz2, sz3, sz4, sz5, frz_ap, frK_l, dIx_l, dIx_t, dIx_s, oIx_ap, isO_own, isO_arg, oK_own, oK_arg, partM_ap, pK_i, sliceM_ap, dSl_l, dSl_t, callB_ap, dLen_l, dLen_t, dLen_s, oLen_ap, oLK_own, oLK_arg, dInt_i, dTup_l, dTup_t, dAbs_i, lisM_ap, liK_l, liK_t, callM_ap, call_ok, getO_ap, gO_own, gO_arg, putR_ap, puK_own, puK_arg, fcallR_ok, cRK_s, callR_ap, putS_ap, pS_none, pS_val, pS_own, seqM_ap, seq_nx, seq_rt, seq_bk, seq_ct, done_ap, exprM_ap, retM_ap, ifM_ap, setM_ap, setO_ap, asg_ok, asgM_ap, xE_ap, xO_ap, auI_i, pxN_s, pxK_s, pxG_s, putIx_ap, apK_s, isLs_s, appM_ap, items_l, items_t, items_s, iterM_ap, rngM_ap, enO_ap, zO_ap, noX_ap, nox_ok, asT_ap, tK_b, tK_n, tK_i, tK_l, tK_t, tupG_t, consG_c, nilG_n, yes_ap, fnD_ap, fin_nx, fin_rt, backs_n, backs_c, pick_v, pick_a, isiM_ap, isi2M_ap, typM_ap, isDt_n, isDt_i, isDt_b, isDt_s, isDt_t, isDt_l, c, hm, hm2, c3]
end DN

namespace DN
open PySem PySem.Spec L2
section
variable {ι : Type} {Xs : ι → Cx} {P : Program} {w : World} {K : PySem.W.Frag} {mg : Str → Option Value} {base : Heap} {N : List Str} {k : Nat} {Wx : WX} {EI : EIx}
variable {a b c : Expr} {f g h : Mo Dt} {pos : Pos} {x y z : Str}
end
end DN

set_option maxHeartbeats 4000000
namespace DN
open PySem PySem.Spec PyProof.Rows L2
theorem tuple_mul0 (l : Addr) (items : Array Value) (n : Nat) (dd : Option Addr) (sl : Array (Option Value)) (x : Int) (u : Tok) (c0 : (decide (x < -(2 ^ 63)) || decide (x ≥ 2 ^ 63)) = false) (c1 : (items.isEmpty || x == 1) = false) (c2 : (decide (x ≤ 0) || items.isEmpty) = true) :
    Meets (Builtin.«tuple.__mul__» ⟨[.ref l, .int x u], []⟩) (fun _ R s => s.heap.get? l = some { cls := .type "tuple", dict := dd, data := .seq items n, slots := sl } ∧
      R (.ok (.ret (Value.ref s.heap.objs.size))) { s with heap := s.heap.push { cls := Value.type "tuple", data := Data.seq #[] }, toks := s.toks }) :=
  .of_wp fun prog w A R s h => by
    obtain ⟨hp, g, d, tk, os⟩ := s
    obtain ⟨hl, h⟩ := h
    have f1 := AutoSeq1.idx_int
    wp_walk using wpAny_loadPart' hl
    repeat (first
      | (refine wpAny_ite_false (decide_eq_false (by rw [c0]; exact Bool.false_ne_true)) ?_; wp_walk using wpAny_loadPart' hl)
      | (refine wpAny_ite_false (decide_eq_false (by rw [c1]; exact Bool.false_ne_true)) ?_; wp_walk using wpAny_loadPart' hl)
      | (refine wpAny_ite_true (decide_eq_true c2) ?_; wp_walk using wpAny_loadPart' hl))

    exact ⟨_, rfl, h⟩
theorem tuple_mul1 (l : Addr) (items : Array Value) (n : Nat) (dd : Option Addr) (sl : Array (Option Value)) (x : Int) (u : Tok) (c0 : (decide (x < -(2 ^ 63)) || decide (x ≥ 2 ^ 63)) = false) (c1 : (items.isEmpty || x == 1) = true) :
    Meets (Builtin.«tuple.__mul__» ⟨[.ref l, .int x u], []⟩) (fun _ R s => s.heap.get? l = some { cls := .type "tuple", dict := dd, data := .seq items n, slots := sl } ∧
      R (.ok (.ret (Value.ref l))) s) :=
  .of_wp fun prog w A R s h => by
    obtain ⟨hp, g, d, tk, os⟩ := s
    obtain ⟨hl, h⟩ := h
    have f1 := AutoSeq1.idx_int
    wp_walk using wpAny_loadPart' hl
    repeat (first
      | (refine wpAny_ite_false (decide_eq_false (by rw [c0]; exact Bool.false_ne_true)) ?_; wp_walk using wpAny_loadPart' hl)
      | (refine wpAny_ite_true (decide_eq_true c1) ?_; wp_walk using wpAny_loadPart' hl))

    exact ⟨_, rfl, h⟩
def rRepT0 (K : PySem.W.Frag) : R2 := fun x y H Q => ∃ l k xs, x = .ref l ∧ y = .int k ∧ SqT K H l xs ∧ xs ≠ [] ∧ -1000 ≤ k ∧ k ≤ 0 ∧ ∀ p, H p = none → Q (.ref p) (upd H p (.tup []))
def rRepT1 (K : PySem.W.Frag) : R2 := fun x y H Q => ∃ l xs, x = .ref l ∧ y = .int 1 ∧ SqT K H l xs ∧ Q (.ref l) H
section
variable {X : Cx}
theorem op_repT0 : OpR X (binaryOp .Mult) (rRepT0 X.K) := by
  intro pins s σ H x y v u Q I rx ry h
  obtain ⟨l, k, xs, rfl, rfl, hT, hne, h1, h2, q⟩ := h
  cases rx
  obtain ⟨t, rfl⟩ := ry
  obtain ⟨its, r, ⟨⟨cls, dd, data, sl⟩, ho, hc, n, hd⟩, hs⟩ := I.tuple hT
  simp only at hc hd
  subst hc hd
  have hle : its.length = xs.length := r.length.symm
  have hn : its ≠ [] := fun e => hne (by
    rw [e] at hle
    exact List.eq_nil_of_length_eq_zero hle.symm)
  have hi : its.toArray.isEmpty = false := by
    cases its with
    | nil => exact absurd rfl hn
    | cons a b => rfl
  have c0 : (decide (k < -(2 ^ 63)) || decide (k ≥ 2 ^ 63)) = false := by
    rw [decide_eq_false (by omega), decide_eq_false (by omega)] <;> rfl
  have c1 : (its.toArray.isEmpty || k == 1) = false := by
    rw [hi, Bool.false_or]
    exact beq_eq_false_iff_ne.mpr (by omega)
  have c2 : (decide (k ≤ 0) || its.toArray.isEmpty) = true := by
    rw [hi, Bool.or_false]
    exact decide_eq_true (by omega)
  refine wpAny_binaryOp_repeat_ref (T := "tuple") (U := "int") (by decide) ⟨_, ho, rfl⟩ (fun s' => typeIs_int s' k t) noFill_tuple_mul F.fills_int_mul F.slot_int_rmul repeat_tuple F.slot_int_index.lookup
    (call_meets F.slot_int_rmul (typeIs_int s k t) F.entry_int_rmul (F.args_int_rmul_2 _ _) (int_rmul_tuple k t l its.toArray n dd sl)
      ⟨ho, rfl, ⟨_, ho, rfl⟩, call_meets F.slot_tuple_mul ⟨_, ho, rfl⟩ F.entry_tuple_mul (F.args_tuple_mul_2 _ _) (tuple_mul0 l its.toArray n dd sl k t c0 c1 c2) ⟨ho, ?_⟩⟩)
  refine ⟨.ref s.heap.objs.size, _, I.laid (t' := s.toks) (o := .tup []) (fun b ob q => Heap.get?_push_of_some _ q) (Nat.le_refl _) ?_, rfl, q _ (I.hok.fresh (Nat.le_refl _))⟩
  exact ⟨by rw [sizeLine_eq]; exact Nat.zero_le _, [], .nil, IsTup.new _ _⟩
theorem op_repT1 : OpR X (binaryOp .Mult) (rRepT1 X.K) := by
  intro pins s σ H x y v u Q I rx ry h
  obtain ⟨l, xs, rfl, rfl, hT, q⟩ := h
  cases rx
  obtain ⟨t, rfl⟩ := ry
  obtain ⟨its, r, ⟨⟨cls, dd, data, sl⟩, ho, hc, n, hd⟩, hs⟩ := I.tuple hT
  simp only at hc hd
  subst hc hd
  have c0 : (decide ((1 : Int) < -(2 ^ 63)) || decide ((1 : Int) ≥ 2 ^ 63)) = false := by decide
  have c1 : (its.toArray.isEmpty || (1 : Int) == 1) = true := by rw [Bool.or_eq_true]; exact .inr rfl
  exact wpAny_binaryOp_repeat_ref (T := "tuple") (U := "int") (by decide) ⟨_, ho, rfl⟩ (fun s' => typeIs_int s' 1 t) noFill_tuple_mul F.fills_int_mul F.slot_int_rmul repeat_tuple F.slot_int_index.lookup
    (call_meets F.slot_int_rmul (typeIs_int s 1 t) F.entry_int_rmul (F.args_int_rmul_2 _ _) (int_rmul_tuple 1 t l its.toArray n dd sl)
      ⟨ho, rfl, ⟨_, ho, rfl⟩, call_meets F.slot_tuple_mul ⟨_, ho, rfl⟩ F.entry_tuple_mul (F.args_tuple_mul_2 _ _) (tuple_mul1 l its.toArray n dd sl 1 t c0 c1) ⟨ho, ⟨.ref l, H, I, rfl, q⟩⟩⟩)
end
/-- a tuple, not empty, some times -/
def dMulT : Dt → Dt → Option Dt
  | .tuple ds, .int k => if decide (ds ≠ []) && decide (-1000 ≤ k) && decide (k ≤ 1000) && decide (ds.length ≤ 1000) then some (.tuple (List.replicate k.toNat ds).flatten) else none
  | _, _ => none
section
variable {ι : Type} {Xs : ι → Cx} {P : Program} {w : World} {K : PySem.W.Frag} {mg : Str → Option Value} {base : Heap} {N : List Str} {k : Nat} {Wx : WX} {EI : EIx}
variable {a b : Expr} {f g : Mo Dt} {pos pos' pos'' : Pos} {x : Str} {p : Pos}
theorem dne (ds : List Dt) : decide (ds ≠ []) = !ds.isEmpty := by cases ds <;> rfl
theorem mulTOk : OpOk K (fun x y H Q => rRepT K x y H Q ∨ (rRepT0 K x y H Q ∨ rRepT1 K x y H Q)) dMulT := by
  intro F H x y d e z Q S dx dy hz q
  unfold dMulT at hz
  split at hz
  · rename_i ds j
    split at hz
    · rename_i hl
      simp only [Bool.and_eq_true, decide_eq_true_eq] at hl
      cases hz
      cases dx with
      | tup h1 h2 =>
        cases dy
        rename_i adr xs
        have hT := same_seqT (K := K) S h1
        have hne : xs ≠ [] := fun e => hl.1.1.1 (by
          have := dfAll_len h2
          rw [e] at this
          exact List.eq_nil_of_length_eq_zero this.symm)
        by_cases c1 : j = 1
        · subst c1
          refine .inr (.inr ⟨_, xs, rfl, rfl, hT, ?_⟩)
          have e : (List.replicate (1 : Int).toNat ds).flatten = ds := by
            show (List.replicate 1 ds).flatten = ds
            simp
          rw [e] at q
          exact q _ F H .same (.tup h1 h2)
        · by_cases c0 : j ≤ 0
          · refine .inr (.inl ⟨_, j, xs, rfl, rfl, hT, hne, hl.1.1.2, c0, fun p hp => ?_⟩)
            have e : (List.replicate j.toNat ds).flatten = [] := by
              rw [show j.toNat = 0 by omega]; rfl
            rw [e] at q
            exact q _ _ _ (.new hp) (.tup (.inl upd_same) .nil)
          · exact .inl ⟨_, j, xs, rfl, rfl, hT, hne, by omega, hl.1.2, by rw [dfAll_len h2]; exact hl.2, fun p hp => q _ _ _ (.new hp) (.tup (.inl upd_same) (dfAll_mono (same_upd (S.free hp)) (dfAll_rep h2 _)))⟩
    · cases hz
  · cases hz
theorem fe_mulT (G : Good Xs P w K mg base N k Wx) (ha : FE Xs K EI Wx a f) (hb : FE Xs K EI Wx b g) : FE Xs K EI Wx (.BinOp a .Mult b pos) (op2 dMulT f g) :=
  fe_op (fun i => by
    have h := opr_or (@op_repT (Xs i)) (opr_or (@op_repT0 (Xs i)) (@op_repT1 (Xs i)))
    rw [G.hK i] at h
    exact h) mulTOk ha hb
def revM (f : Mo Dt) : Mo (List Dt) := bnd f fun d => match d with
  | .int j => if decide (-(2 ^ 62) ≤ j) && decide (j < 2 ^ 62) then ret (rangeD 0 j.toNat).reverse else bad
  | _ => bad
end
end DN

namespace DN
open PySem PySem.Spec L2
def compI (g : Dt → Mo Unit) (p : Mo Bool) (f : Mo Dt) (vs : List Nat) : List Dt → List Dt → Mo (List Dt)
  | [], acc => ret acc
  | d :: ds, acc => fun ρ => match g d ρ with
    | .ok _ ρ1 => (match p ρ1 with
      | .ok true ρ2 => (match f ρ2 with
        | .ok e ρ3 => if acc.length < sizeLine then compI g p f vs ds (acc ++ [e]) (wipeR ρ3 vs) else .stuck
        | _ => .stuck)
      | .ok false ρ2 => compI g p f vs ds acc (wipeR ρ2 vs)
      | _ => .stuck)
    | _ => .stuck
def compK2 (k : List Dt → Mo (List Dt)) (o : Out (List Dt)) (vs : List Nat) : Out (List Dt) := match o with
  | .ok acc ρ => k acc (wipeR ρ vs)
  | _ => .stuck
def compL2 (g : Dt → Mo Unit) (p : Mo Bool) (it1 : Mo (List Dt)) (g1 : Dt → Mo Unit) (p1 : Mo Bool) (f : Mo Dt) (vs vs1 : List Nat) : List Dt → List Dt → Mo (List Dt)
  | [], acc => ret acc
  | d :: ds, acc => fun ρ => match g d ρ with
    | .ok _ ρ1 => (match p ρ1 with
      | .ok true ρ2 => (match it1 ρ2 with
        | .ok es ρ3 => compK2 (compL2 g p it1 g1 p1 f vs vs1 ds) (compI g1 p1 f vs1 es acc (wipeR ρ3 vs1)) vs
        | _ => .stuck)
      | .ok false ρ2 => compL2 g p it1 g1 p1 f vs vs1 ds acc (wipeR ρ2 vs)
      | _ => .stuck)
    | _ => .stuck
def compM2 (it : Mo (List Dt)) (g : Dt → Mo Unit) (p : Mo Bool) (it1 : Mo (List Dt)) (g1 : Dt → Mo Unit) (p1 : Mo Bool) (f : Mo Dt) (vs vs1 : List Nat) : Mo Ob := bnd it fun ds => fun ρ =>
  if (vs.all fun i => !hasArg ρ i) && (vs1.all fun i => vs.contains i) then (match compL2 g p it1 g1 p1 f vs vs1 ds [] (wipeR ρ vs) with
    | .ok acc ρ' => .ok (.lst acc) ρ'
    | _ => .stuck) else .stuck
section
variable {ι : Type} {Xs : ι → Cx} {P : Program} {w : World} {K : PySem.W.Frag} {mg : Str → Option Value} {base : Heap} {N : List Str} {k : Nat} {Wx : WX} {EI : EIx}
variable {a b c e : Expr} {f : Mo Dt} {p p1 : Mo Bool} {pos pos' : Pos} {x : Str} {it it1 : Mo (List Dt)} {g g1 : Dt → Mo Unit}
end
end DN

namespace DN
open PySem PySem.Spec L2

inductive R (τ α : Type) where
  | ok (a : α) (t : τ)
  | exn (x : Exn) (t : τ)
  | stuck
abbrev M (τ α : Type) := τ → R τ α
section
variable {τ α β γ κ σ : Type}
def R.bind (r : R τ α) (k : α → M τ β) : R τ β := match r with
  | .ok a t => k a t
  | .exn x t => .exn x t
  | .stuck => .stuck
def pr (a : α) : M τ α := fun t => .ok a t
def pb (m : M τ α) (k : α → M τ β) : M τ β := fun t => (m t).bind k
def pz : M τ α := fun _ => .stuck
def po (o : Option α) : M τ α := fun t => match o with
  | some a => .ok a t
  | none => .stuck
def pif (b : Bool) (c d : M τ α) : M τ α := fun t => if b = true then c t else d t
def pg (b : Bool) (c : M τ α) : M τ α := fun t => if b = true then c t else .stuck
def lift0 (m : M Unit α) : M τ α := fun t => match m () with
  | .ok a _ => .ok a t
  | .exn x _ => .exn x t
  | .stuck => .stuck

inductive Sp where
  | val (d : Dt)
  | own (o : Ob)
  | arg (o : Ob)
  | fz (ds : List Dt)
  | any
def Ms : Sp → Option Sv → Prop
  | .val d, s => s = some (.val d)
  | .own o, s => s = some (.own o)
  | .arg o, s => s = some (.arg o)
  | .fz ds, s => s = some (.own (.lst ds)) ∨ s = some (.val (.list ds))
  | .any, s => ∀ o, s ≠ some (.arg o)
def Mt : List Sp → Rh → Prop
  | [], [] => True
  | s :: ss, x :: xs => Ms s x ∧ Mt ss xs
  | _, _ => False
theorem mt_get : ∀ {G : List Sp} {ρ : Rh} {i : Nat} {s : Sp}, Mt G ρ → G[i]? = some s → ∃ x, ρ[i]? = some x ∧ Ms s x
  | [], _, _, _, _, e => by simp at e
  | _ :: _, [], _, _, h, _ => h.elim
  | a :: G, x :: ρ, 0, s, h, e => by simp at e; subst e; exact ⟨x, rfl, h.1⟩
  | a :: G, x :: ρ, i + 1, s, h, e => by simpa using mt_get h.2 (by simpa using e)
theorem mt_set {s : Sp} {x : Option Sv} (m : Ms s x) : ∀ {G : List Sp} {ρ : Rh} (i : Nat), Mt G ρ → Mt (G.set i s) (ρ.set i x)
  | [], [], _, _ => trivial
  | [], _ :: _, _, h => h.elim
  | _ :: _, [], _, h => h.elim
  | a :: G, y :: ρ, 0, h => ⟨m, h.2⟩
  | a :: G, y :: ρ, i + 1, h => ⟨h.1, mt_set m i h.2⟩
def nArg : Option Sp → Bool
  | some (.arg _) => false
  | some _ => true
  | none => false
theorem ms_narg {s : Sp} {x : Option Sv} (h : Ms s x) (n : nArg (some s) = true) (o : Ob) : x ≠ some (.arg o) := by
  intro e
  subst e
  cases s with
  | val d => cases h
  | own d => cases h
  | arg d => cases n
  | fz d => rcases h with h | h <;> cases h
  | any => exact h o rfl
theorem mt_put {G : List Sp} {ρ : Rh} {i : Nat} {sv : Sv} {s : Sp} (h : Mt G ρ) (n : nArg G[i]? = true) (m : Ms s (some sv)) : ∃ ρ', putS i sv ρ = .ok () ρ' ∧ Mt (G.set i s) ρ' := by
  cases e : G[i]? with
  | none => rw [e] at n; cases n
  | some s' =>
    obtain ⟨x, ex, mx⟩ := mt_get h e
    rw [e] at n
    refine ⟨ρ.set i (some sv), ?_, mt_set m i h⟩
    rw [putS_ap, ex]
    have := ms_narg mx n
    match x, this with
    | none, _ => rfl
    | some (.val _), _ => rfl
    | some (.own _), _ => rfl
    | some (.arg o), z => exact (z o rfl).elim
inductive Wk : List Sp → List Sp → Prop where
  | nil : Wk [] []
  | s {s : Sp} {G G' : List Sp} : Wk G G' → Wk (s :: G) (s :: G')
  | a {s : Sp} {G G' : List Sp} : nArg (some s) = true → Wk G G' → Wk (s :: G) (.any :: G')
  | f {ds : List Dt} {G G' : List Sp} : Wk G G' → Wk (.own (.lst ds) :: G) (.fz ds :: G')
  | g {ds : List Dt} {G G' : List Sp} : Wk G G' → Wk (.val (.list ds) :: G) (.fz ds :: G')
theorem mt_wk : ∀ {G G' : List Sp} {ρ : Rh}, Wk G G' → Mt G ρ → Mt G' ρ
  | _, _, [], .nil, _ => trivial
  | _, _, [], .s _, h => h.elim
  | _, _, [], .a _ _, h => h.elim
  | _, _, [], .f _, h => h.elim
  | _, _, [], .g _, h => h.elim
  | _, _, _ :: _, .nil, h => h.elim
  | _, _, x :: ρ, .s w, h => ⟨h.1, mt_wk w h.2⟩
  | _, _, x :: ρ, .a n w, h => ⟨ms_narg h.1 n, mt_wk w h.2⟩
  | _, _, x :: ρ, .f w, h => ⟨.inl h.1, mt_wk w h.2⟩
  | _, _, x :: ρ, .g w, h => ⟨.inr h.1, mt_wk w h.2⟩

def Tri (r : R τ α) (o : Out β) (P : α → τ → β → Rh → Prop) (X : τ → Rh → Prop) : Prop := match r with
  | .ok a t => ∃ b ρ, o = .ok b ρ ∧ P a t b ρ
  | .exn x t => ∃ ρ, o = .exn x ρ ∧ X t ρ
  | .stuck => True
theorem tri_bind {γ' : Type} {r : R τ α} {o : Out β} {P : α → τ → β → Rh → Prop} {X : τ → Rh → Prop} {k : α → M τ γ} {k' : β → Rh → Out γ'} {P' : γ → τ → γ' → Rh → Prop} (h : Tri r o P X) (g : ∀ a t b ρ, P a t b ρ → Tri (k a t) (k' b ρ) P' X) : Tri (r.bind k) (o.bind k') P' X := by
  cases r with
  | ok a t =>
    obtain ⟨b, ρ, e, p⟩ := h
    rw [e]
    exact g a t b ρ p
  | exn x t =>
    obtain ⟨ρ, e, p⟩ := h
    rw [e]
    exact ⟨ρ, rfl, p⟩
  | stuck => trivial
def J (X : τ → Rh → Prop) (Γ : τ → List Sp) (m : Mo β) (c : M τ α) (P : α → τ → β → Rh → Prop) : Prop := ∀ t ρ, Mt (Γ t) ρ → Tri (c t) (m ρ) P X
abbrev EJ (X : τ → Rh → Prop) (Γ : τ → List Sp) (m : Mo α) (c : M τ α) (Γ' : τ → List Sp) : Prop := J X Γ m c fun a t b ρ => b = a ∧ Mt (Γ' t) ρ
abbrev OJ (X : τ → Rh → Prop) (Γ : τ → List Sp) (m : Mo Ob) (c : M τ (List Dt)) (Γ' : τ → List Sp) : Prop := J X Γ m c fun a t b ρ => b = .lst a ∧ Mt (Γ' t) ρ
variable {X : τ → Rh → Prop} {Γ Γ1 Γ2 Γ3 : τ → List Sp} {P : γ → τ → β → Rh → Prop}
theorem e_bnd {γ' : Type} {m : Mo α} {c : M τ α} {k' : α → Mo γ'} {k : α → M τ γ} {P : γ → τ → γ' → Rh → Prop} (h : EJ X Γ m c Γ1) (g : ∀ a, J X Γ1 (k' a) (k a) P) : J X Γ (bnd m k') (pb c k) P := fun t ρ hm => by
  rw [bnd_ap]
  exact tri_bind (h t ρ hm) fun a t b ρ' p => by obtain ⟨rfl, q⟩ := p; exact g b t ρ' q
theorem o_bnd {γ' : Type} {m : Mo Ob} {c : M τ (List Dt)} {k' : Ob → Mo γ'} {k : List Dt → M τ γ} {P : γ → τ → γ' → Rh → Prop} (h : OJ X Γ m c Γ1) (g : ∀ a, J X Γ1 (k' (.lst a)) (k a) P) : J X Γ (bnd m k') (pb c k) P := fun t ρ hm => by
  rw [bnd_ap]
  exact tri_bind (h t ρ hm) fun a t b ρ' p => by obtain ⟨rfl, q⟩ := p; exact g a t ρ' q
theorem e_ret {a : α} : EJ X Γ (ret a) (pr a) Γ := fun t ρ h => ⟨a, ρ, rfl, rfl, h⟩
theorem e_bad {m : Mo β} : J X Γ m (pz : M τ γ) P := fun t ρ h => trivial
theorem e_opt {o : Option α} : EJ X Γ (opt o) (po o) Γ := fun t ρ h => by
  cases o with
  | none => trivial
  | some a => exact ⟨a, ρ, rfl, rfl, h⟩
theorem e_ite {b : Bool} {m m' : Mo β} {c c' : M τ γ} (h1 : J X Γ m c P) (h2 : J X Γ m' c' P) : J X Γ (if b = true then m else m') (pif b c c') P := fun t ρ h => by
  cases b with
  | true => exact h1 t ρ h
  | false => exact h2 t ρ h
theorem e_iteP {q : Prop} [Decidable q] {m m' : Mo β} {c c' : M τ γ} (h1 : J X Γ m c P) (h2 : J X Γ m' c' P) : J X Γ (if q then m else m') (pif (decide q) c c') P := fun t ρ h => by
  by_cases z : q
  · rw [if_pos z]; unfold pif; rw [decide_eq_true z]; exact h1 t ρ h
  · rw [if_neg z]; unfold pif; rw [decide_eq_false z]; exact h2 t ρ h

theorem e_var {i : Nat} {d : Dt} (h : ∀ t, (Γ t)[i]? = some (.val d) := by intro _; rfl) : EJ X Γ (var i) (pr d) Γ := fun t ρ hm => by
  obtain ⟨x, ex, mx⟩ := mt_get hm (h t)
  refine ⟨d, ρ, ?_, rfl, hm⟩
  rw [var_ap, ex, show x = some (.val d) from mx]
  rfl
theorem e_varO {i : Nat} {ds : List Dt} (h : ∀ t, (Γ t)[i]? = some (.own (.lst ds)) := by intro _; rfl) : EJ X Γ (var i) (pr (.list ds)) (fun t => (Γ t).set i (.fz ds)) := fun t ρ hm => by
  obtain ⟨x, ex, mx⟩ := mt_get hm (h t)
  refine ⟨_, ρ.set i (some (.val (.list ds))), ?_, rfl, mt_set (s := .fz ds) (x := some (.val (.list ds))) (Or.inr rfl) i hm⟩
  rw [var_ap, ex, show x = some (.own (.lst ds)) from mx]
  rfl
variable {f g h : Mo Dt} {cf cg ch : M τ Dt} {p q : Mo Bool} {cp cq : M τ Bool} {fa : Mo (List Dt)} {ca : M τ (List Dt)}
def p2 (o : Dt → Dt → Option Dt) (cf cg : M τ Dt) : M τ Dt := pb cf fun d => pb cg fun e => po (o d e)
def p1 (o : Dt → Option Dt) (cf : M τ Dt) : M τ Dt := pb cf fun d => po (o d)
theorem e_op2 {o : Dt → Dt → Option Dt} (hf : EJ X Γ f cf Γ1) (hg : EJ X Γ1 g cg Γ2) : EJ X Γ (op2 o f g) (p2 o cf cg) Γ2 := e_bnd hf fun _ => e_bnd hg fun _ => e_opt
theorem e_op1 {o : Dt → Option Dt} (hf : EJ X Γ f cf Γ1) : EJ X Γ (op1 o f) (p1 o cf) Γ1 := e_bnd hf fun _ => e_opt
def pB (d : Dt) (k : Bool → M τ α) : M τ α := match d with
  | .bool b => k b
  | _ => pz
def pasB (cf : M τ Dt) : M τ Bool := pb cf fun d => pB d pr
theorem e_asB (hf : EJ X Γ f cf Γ1) : EJ X Γ (asB f) (pasB cf) Γ1 := e_bnd hf fun d => by
  cases d <;> first | exact e_bad | exact e_ret
def pT (d : Dt) : M τ Bool := match d with
  | .none => pr false
  | .bool b => pr b
  | .int i => pr (i != 0)
  | .str x => pg (decide (x.length ≤ sizeLine)) (pr ((x.length : Int) != 0))
  | .list ds => pr (!ds.isEmpty)
  | .tuple ds => pr (!ds.isEmpty)
  | .dict _ => pz
def pasT (cf : M τ Dt) : M τ Bool := pb cf pT
theorem e_asT (hf : EJ X Γ f cf Γ1) : EJ X Γ (asT f) (pasT cf) Γ1 := e_bnd hf fun d => by
  cases d <;> first | exact e_bad | exact e_ret | skip
  rename_i x
  intro t ρ hm
  unfold pT pg
  by_cases z : x.length ≤ sizeLine
  · simp only [decide_eq_true z, if_true, if_pos z]
    exact ⟨_, ρ, rfl, rfl, hm⟩
  · simp only [decide_eq_false z]
    exact trivial
def pchain (o o' : Dt → Dt → Option Dt) (cf cg ch : M τ Dt) : M τ Dt := pb cf fun x => pb cg fun y => pb (po (o x y)) fun r => pB r fun b => pif b (pb ch fun z => po (o' y z)) (pr (.bool false))
theorem e_chain {o o' : Dt → Dt → Option Dt} (hf : EJ X Γ f cf Γ1) (hg : EJ X Γ1 g cg Γ2) (hh : EJ X Γ2 h ch Γ2) : EJ X Γ (chain o o' f g h) (pchain o o' cf cg ch) Γ2 := e_bnd hf fun x => e_bnd hg fun y => e_bnd e_opt fun r => by
  cases r with
  | bool b =>
    cases b with
    | true => exact e_bnd hh fun _ => e_opt
    | false => exact e_ret
  | _ => exact e_bad
def pandM (cp cq : M τ Bool) : M τ Bool := pb cp fun c => pif c cq (pr false)
def porM (cp cq : M τ Bool) : M τ Bool := pb cp fun c => pif c (pr true) cq
def pnotM (cp : M τ Bool) : M τ Bool := pb cp fun c => pr (!c)
def pandV (cf cg : M τ Dt) : M τ Dt := pb cf fun d => pB d fun b => pif b cg (pr (.bool false))
def porV (cf cg : M τ Dt) : M τ Dt := pb cf fun d => pB d fun b => pif b (pr (.bool true)) cg
def pnotV (cf : M τ Dt) : M τ Dt := pb cf fun d => pB d fun b => pr (.bool (!b))
def pite (cp : M τ Bool) (c d : M τ α) : M τ α := pb cp fun b => pif b c d
theorem e_orM (hp : EJ X Γ p cp Γ1) (hq : EJ X Γ1 q cq Γ1) : EJ X Γ (orM p q) (porM cp cq) Γ1 := e_bnd hp fun _ => e_ite e_ret hq
theorem e_notM (hp : EJ X Γ p cp Γ1) : EJ X Γ (notM p) (pnotM cp) Γ1 := e_bnd hp fun _ => e_ret
theorem e_andV (hf : EJ X Γ f cf Γ1) (hg : EJ X Γ1 g cg Γ1) : EJ X Γ (andV f g) (pandV cf cg) Γ1 := e_bnd hf fun d => by
  cases d <;> first | exact e_bad | skip
  rename_i b
  cases b with
  | true => exact hg
  | false => exact e_ret
theorem e_iteV (hp : EJ X Γ p cp Γ1) (hf : EJ X Γ1 f cf Γ1) (hg : EJ X Γ1 g cg Γ1) : EJ X Γ (iteV p f g) (pite cp cf cg) Γ1 := e_bnd hp fun _ => e_ite hf hg
def pcons (cf : M τ Dt) (ca : M τ (List Dt)) : M τ (List Dt) := pb cf fun d => pb ca fun ds => pr (d :: ds)
theorem e_cons (hf : EJ X Γ f cf Γ1) (ha : EJ X Γ1 fa ca Γ2) : EJ X Γ (consA f fa) (pcons cf ca) Γ2 := e_bnd hf fun _ => e_bnd ha fun _ => e_ret
def ptup (ca : M τ (List Dt)) : M τ Dt := pb ca fun ds => pif (decide (ds.length ≤ sizeLine)) (pr (.tuple ds)) pz
def plst (ca : M τ (List Dt)) : M τ (List Dt) := pb ca fun ds => pif (decide (ds.length ≤ sizeLine)) (pr ds) pz
theorem e_tup (ha : EJ X Γ fa ca Γ1) : EJ X Γ (tupM fa) (ptup ca) Γ1 := e_bnd ha fun _ => e_iteP e_ret e_bad
theorem o_ret {ds : List Dt} : OJ X Γ (ret (.lst ds)) (pr ds) Γ := fun t ρ h => ⟨.lst ds, ρ, rfl, rfl, h⟩
theorem o_lst (ha : EJ X Γ fa ca Γ1) : OJ X Γ (lstM fa) (plst ca) Γ1 := e_bnd ha fun _ => e_iteP o_ret e_bad
def pfrz (cl : M τ (List Dt)) : M τ Dt := pb cl fun ds => pr (.list ds)
theorem e_frz {fo : Mo Ob} {cl : M τ (List Dt)} (h : OJ X Γ fo cl Γ1) : EJ X Γ (frz fo) (pfrz cl) Γ1 := o_bnd h fun _ => e_ret
def pix (ds : List Dt) (cg : M τ Dt) : M τ Dt := pb cg fun e => po (dIx (.list ds) e)
def pI (d : Dt) : M τ (Option Int) := match d with
  | .int i => pr (some i)
  | _ => pz
def ppart (cf : M τ Dt) : M τ (Option Int) := pb cf pI
theorem e_part (hf : EJ X Γ f cf Γ1) : EJ X Γ (partM f) (ppart cf) Γ1 := e_bnd hf fun d => by
  cases d <;> first | exact e_bad | exact e_ret
def pslice (cf : M τ Dt) (cl cu : M τ (Option Int)) : M τ Dt := pb cf fun d => pb cl fun l => pb cu fun u => po (dSl d l u)
theorem e_slice {fl fh : Mo (Option Int)} {cl cu : M τ (Option Int)} (hf : EJ X Γ f cf Γ1) (hl : EJ X Γ1 fl cl Γ2) (hu : EJ X Γ2 fh cu Γ3) : EJ X Γ (sliceM f fl fh) (pslice cf cl cu) Γ3 := e_bnd hf fun _ => e_bnd hl fun _ => e_bnd hu fun _ => e_opt
def pcall (o : List Dt → Option Dt) (ca : M τ (List Dt)) : M τ Dt := pb ca fun ds => po (o ds)
theorem e_callB {o : List Dt → Option Dt} (ha : EJ X Γ fa ca Γ1) : EJ X Γ (callB o fa) (pcall o ca) Γ1 := e_bnd ha fun _ => e_opt
theorem e_isi {T : String} (hf : EJ X Γ f cf Γ1) : EJ X Γ (isiM T f) (p1 (fun d => (kitB (kindOf d) T).map .bool) cf) Γ1 := e_bnd hf fun _ => e_opt
def ptyp (T : String) (cf : M τ Dt) : M τ Dt := pb cf fun d => pif (isDt d) pz (pr (.bool (decide (kindOf d = T))))
theorem e_typ {T : String} (hf : EJ X Γ f cf Γ1) : EJ X Γ (typM T f) (ptyp T cf) Γ1 := e_bnd hf fun _ => e_ite e_bad e_ret

variable {fo : Mo Ob} {cl : M τ (List Dt)}
def pL (d : Dt) (k : List Dt → M τ α) : M τ α := match d with
  | .list ds => k ds
  | _ => pz
def pN (d : Dt) (k : Int → M τ α) : M τ α := match d with
  | .int i => k i
  | _ => pz
def pS' (d : Dt) : M τ (List Dt) := match d with
  | .list ds => pr ds
  | .tuple ds => pr ds
  | _ => pz
def plis (cf : M τ Dt) : M τ (List Dt) := pb cf pS'
def pcat (cf cg : M τ Dt) : M τ (List Dt) := pb cf fun d => pb cg fun e => pL d fun xs => pL e fun ys => pif (decide (xs.length + ys.length ≤ sizeLine)) (pr (xs ++ ys)) pz
def prep (cf cg : M τ Dt) : M τ (List Dt) := pb cf fun d => pb cg fun e => pL d fun xs => pN e fun n => pif (decide (-(2 ^ 63) ≤ n) && decide (n < 2 ^ 63) && decide (xs.length * n.toNat ≤ sizeLine)) (pr (List.replicate n.toNat xs).flatten) pz
def piter (cf : M τ Dt) : M τ (List Dt) := pb cf fun d => po (itemsOf d)
theorem e_iter (hf : EJ X Γ f cf Γ1) : EJ X Γ (iterM f) (piter cf) Γ1 := e_bnd hf fun _ => e_opt
def prng (o : List Dt → Option (List Dt)) (ca : M τ (List Dt)) : M τ (List Dt) := pb ca fun ds => po (o ds)
theorem e_rng {o : List Dt → Option (List Dt)} (ha : EJ X Γ fa ca Γ1) : EJ X Γ (rngM o fa) (prng o ca) Γ1 := e_bnd ha fun _ => e_opt
def prev (cf : M τ Dt) : M τ (List Dt) := pb cf fun d => pN d fun j => pif (decide (-(2 ^ 62) ≤ j) && decide (j < 2 ^ 62)) (pr (rangeD 0 j.toNat).reverse) pz
def FPo (r : R Unit Dt) (o : FOut) (rs : List Sv) : Prop := match r with
  | .ok d _ => o = .ok d rs
  | .exn x _ => o = .exn x rs
  | .stuck => True
def FnJ (fn : Fn) (P : List Dt → M Unit Dt) : Prop := ∀ ds, FPo (P ds ()) (fn (ds.map .val)) (ds.map .val)
def pfn (P : List Dt → M Unit Dt) (ca : M τ (List Dt)) : M τ Dt := pb ca fun ds => lift0 (P ds)
theorem e_call {fn : Fn} {P : List Dt → M Unit Dt} (D : FnJ fn P) (ha : EJ X Γ fa ca Γ1) (hx : ∀ t ρ, Mt (Γ1 t) ρ → X t ρ) : EJ X Γ (callM fn fa) (pfn P ca) Γ1 := fun t ρ hm => by
  rw [callM_ap]
  refine tri_bind (ha t ρ hm) fun ds t' b ρ' pp => ?_
  obtain ⟨rfl, q⟩ := pp
  have z := D b
  unfold lift0
  cases e : P b () with
  | stuck => trivial
  | ok d u => rw [e] at z; exact ⟨d, ρ', by rw [show fn (b.map .val) = _ from z]; rfl, rfl, q⟩
  | exn x u => rw [e] at z; exact ⟨ρ', by rw [show fn (b.map .val) = _ from z]; rfl, hx t' ρ' q⟩
def FnR (fn : Fn) (P : List Dt → M (List Dt) Dt) : Prop := ∀ r ds, match P ds r with
  | .ok d r' => fn (.arg (.lst r) :: ds.map .val) = .ok d (.arg (.lst r') :: ds.map .val)
  | .exn x r' => fn (.arg (.lst r) :: ds.map .val) = .exn x (.arg (.lst r') :: ds.map .val)
  | .stuck => True
end
/-- the row that all draws go through -/
def rowSp (i : Nat) (G : List Dt → List Sp) : Prop := (∀ t, (G t)[i]? = some (.arg (.lst t)) ∧ ∀ t', (G t).set i (.arg (.lst t')) = G t') ∨ (∀ t, (G t)[i]? = some (.own (.lst t)) ∧ ∀ t', (G t).set i (.own (.lst t')) = G t')
def pfnR (P : List Dt → M (List Dt) Dt) (ca : M (List Dt) (List Dt)) : M (List Dt) Dt := pb ca fun ds => P ds
section
variable {X : List Dt → Rh → Prop} {Γ Γ1 : List Dt → List Sp} {fa : Mo (List Dt)} {ca : M (List Dt) (List Dt)}
theorem rowSp_get {i : Nat} {G : List Dt → List Sp} (h : rowSp i G) {t : List Dt} {ρ : Rh} (hm : Mt (G t) ρ) : getO i ρ = some (.lst t) ∧ ∀ t', Mt (G t') (putR i (.lst t') ρ) := by
  rcases h with h | h
  · obtain ⟨x, ex, mx⟩ := mt_get hm (h t).1
    have mx' : x = some (.arg (.lst t)) := mx
    subst mx'
    refine ⟨by rw [getO_ap, ex]; rfl, fun t' => ?_⟩
    rw [putR_ap, ex, puK_arg, ← (h t).2 t']
    exact mt_set (s := .arg (.lst t')) (x := some (.arg (.lst t'))) rfl i hm
  · obtain ⟨x, ex, mx⟩ := mt_get hm (h t).1
    have mx' : x = some (.own (.lst t)) := mx
    subst mx'
    refine ⟨by rw [getO_ap, ex]; rfl, fun t' => ?_⟩
    rw [putR_ap, ex, puK_own, ← (h t).2 t']
    exact mt_set (s := .own (.lst t')) (x := some (.own (.lst t'))) rfl i hm
theorem e_callR {fn : Fn} {P : List Dt → M (List Dt) Dt} {i : Nat} (D : FnR fn P) (ha : EJ X Γ fa ca Γ1) (h0 : rowSp i Γ) (h1 : rowSp i Γ1) (hx : ∀ t ρ, Mt (Γ1 t) ρ → X t ρ) : EJ X Γ (callR fn i fa) (pfnR P ca) Γ1 := fun t ρ hm => by
  rw [callR_ap (by rw [(rowSp_get h0 hm).1]; rfl)]
  refine tri_bind (ha t ρ hm) fun ds t' b ρ' pp => ?_
  obtain ⟨rfl, q⟩ := pp
  obtain ⟨g1, g2⟩ := rowSp_get h1 q
  rw [g1, cRK_s]
  have z := D t' b
  cases e : P b t' with
  | stuck => trivial
  | ok d u =>
    rw [e] at z
    exact ⟨d, _, by rw [show fn (.arg (.lst t') :: b.map .val) = _ from z]; rfl, rfl, g2 u⟩
  | exn x u =>
    rw [e] at z
    exact ⟨_, by rw [show fn (.arg (.lst t') :: b.map .val) = _ from z]; rfl, hx _ _ (g2 u)⟩
end
end DN

namespace DN
open PySem PySem.Spec L2
section
variable {τ α β γ κ σ : Type} {X X' : τ → Rh → Prop} {Γ Γ1 Γ2 Γ3 : τ → List Sp}
variable {f g h : Mo Dt} {cf cg ch : M τ Dt} {p q : Mo Bool} {cp cq : M τ Bool} {fa : Mo (List Dt)} {ca : M τ (List Dt)} {fo : Mo Ob} {cl : M τ (List Dt)} {u v w : Mo Fl}
abbrev SJ (X : τ → Rh → Prop) (Γ : τ → List Sp) (m : Mo Fl) (c : M τ κ) (O : κ → τ → Fl → Rh → Prop) : Prop := J X Γ m c O
variable {O : κ → τ → Fl → Rh → Prop} {k : α → M τ κ} {c : M τ κ}

def R.nx (r : R τ α) : R τ α := match r with
  | .exn _ _ => .stuck
  | r => r
def pnx (c : M τ α) : M τ α := fun t => (c t).nx
theorem bind_seq {o : Out α} {k : α → Rh → Out Fl} {v : Mo Fl} : (o.bind k).seq v = o.bind fun a ρ => (k a ρ).seq v := by cases o <;> rfl
theorem s_last (h : SJ X Γ (seqM u done) c O) : SJ X Γ u c O := fun t ρ hm => by
  have z := h t ρ hm
  have e : seqM u done ρ = u ρ := by
    rw [seqM_ap]
    cases u ρ with
    | ok fl r => cases fl <;> rfl
    | exn _ _ => rfl
    | stuck => rfl
  rwa [e] at z
theorem s_done (h : SJ X Γ v c O) : SJ X Γ (seqM done v) c O := fun t ρ hm => h t ρ hm
theorem s_assoc (h : SJ X Γ (seqM u (seqM v w)) c O) : SJ X Γ (seqM (seqM u v) w) c O := fun t ρ hm => by
  have z := h t ρ hm
  have e : seqM u (seqM v w) ρ = seqM (seqM u v) w ρ := by
    rw [seqM_ap, seqM_ap, seqM_ap]
    cases u ρ with
    | ok fl r => cases fl <;> rfl
    | exn _ _ => rfl
    | stuck => rfl
  rwa [e] at z
theorem s_end {x : κ} (h : ∀ t ρ, Mt (Γ t) ρ → O x t .nx ρ) : SJ X Γ done (pr x) O := fun t ρ hm => ⟨.nx, ρ, rfl, h t ρ hm⟩
theorem s_ret {inj : Dt → κ} (hf : EJ X Γ f cf Γ1) (h : ∀ d t ρ, Mt (Γ1 t) ρ → O (inj d) t (.rt d) ρ) : SJ X Γ (seqM (retM f) v) (pb cf fun d => pr (inj d)) O := fun t ρ hm => by
  rw [seqM_ap, retM_ap, bind_seq]
  refine tri_bind (hf t ρ hm) fun a t' b ρ' pp => ?_
  obtain ⟨rfl, q⟩ := pp
  exact ⟨_, ρ', rfl, h b t' ρ' q⟩
theorem s_fl {fl : Fl} {x : κ} (n : fl ≠ .nx) (h : ∀ t ρ, Mt (Γ t) ρ → O x t fl ρ) : SJ X Γ (seqM (ret fl) v) (pr x) O := fun t ρ hm => by
  refine ⟨fl, ρ, ?_, h t ρ hm⟩
  rw [seqM_ap, ret_ap]
  cases fl with
  | nx => exact (n rfl).elim
  | _ => rfl
theorem s_set {i : Nat} {k : Dt → M τ κ} (hf : EJ X Γ f cf Γ1) (hk : ∀ d, SJ X (fun t => (Γ1 t).set i (.val d)) v (k d) O) (hp : ∀ t, nArg (Γ1 t)[i]? = true := by intro _; rfl) : SJ X Γ (seqM (setM i f) v) (pb cf k) O := fun t ρ hm => by
  rw [seqM_ap, setM_ap, bind_seq]
  refine tri_bind (hf t ρ hm) fun a t' b ρ' pp => ?_
  obtain ⟨rfl, q⟩ := pp
  obtain ⟨ρ2, e, q2⟩ := mt_put (sv := .val b) (s := .val b) q (hp t') rfl
  rw [e, bind_ok, seq_nx]
  exact hk b t' ρ2 q2
theorem s_setO {i : Nat} {k : List Dt → M τ κ} (hf : OJ X Γ fo cl Γ1) (hk : ∀ ds, SJ X (fun t => (Γ1 t).set i (.own (.lst ds))) v (k ds) O) (hp : ∀ t, nArg (Γ1 t)[i]? = true := by intro _; rfl) : SJ X Γ (seqM (setO i fo) v) (pb cl k) O := fun t ρ hm => by
  rw [seqM_ap, setO_ap, bind_seq]
  refine tri_bind (hf t ρ hm) fun a t' b ρ' pp => ?_
  obtain ⟨rfl, q⟩ := pp
  obtain ⟨ρ2, e, q2⟩ := mt_put (sv := .own (.lst a)) (s := .own (.lst a)) q (hp t') rfl
  rw [e, bind_ok, seq_nx]
  exact hk a t' ρ2 q2
structure XJ (X : τ → Rh → Prop) (Γ : τ → List Sp) (m : Mo Sv) (c : M τ α) (e : α → Sv) (s : α → Sp) (Γ' : τ → List Sp) : Prop where
  j : J X Γ m c fun a t b ρ => b = e a ∧ Mt (Γ' t) ρ
  m : ∀ a, Ms (s a) (some (e a)) ∧ isArg (e a) = false
theorem x_e (hf : EJ X Γ f cf Γ1) : XJ X Γ (xE f) cf (fun d => .val d) (fun d => .val d) Γ1 := ⟨fun t ρ hm => by
  rw [xE_ap]
  have z := tri_bind (P' := fun a t b ρ => b = Sv.val a ∧ Mt (Γ1 t) ρ) (k := pr) (k' := fun d ρ => .ok (.val d) ρ) (hf t ρ hm) fun a t' b ρ' pp => by
    obtain ⟨rfl, q⟩ := pp
    exact ⟨_, ρ', rfl, rfl, q⟩
  cases e : cf t <;> rw [e] at z <;> exact z, fun a => ⟨rfl, rfl⟩⟩
theorem s_par {i j : Nat} {f g : Mo Sv} {cf : M τ α} {cg : M τ β} {ef : α → Sv} {eg : β → Sv} {sf : α → Sp} {sg : β → Sp} {k : α → β → M τ κ} (hf : XJ X Γ f cf ef sf Γ1) (hg : XJ X Γ1 g cg eg sg Γ2)
    (hk : ∀ a b, SJ X (fun t => ((Γ2 t).set j (sg b)).set i (sf a)) v (k a b) O) (hp : ∀ b t, nArg (Γ2 t)[j]? = true ∧ nArg ((Γ2 t).set j (sg b))[i]? = true := by intro _ _; exact ⟨rfl, rfl⟩) : SJ X Γ (seqM (parM i j f g) v) (pb (pnx cf) fun a => pb (pnx cg) fun b => k a b) O := fun t ρ hm => by
  have z1 := hf.j t ρ hm
  show Tri ((cf t).nx.bind _) _ _ _
  cases e1 : cf t with
  | stuck => trivial
  | exn x t' => trivial
  | ok a t1 =>
    rw [e1] at z1
    obtain ⟨b1, ρ1, g1, rfl, m1⟩ := z1
    have z2 := hg.j t1 ρ1 m1
    show Tri ((cg t1).nx.bind _) _ _ _
    cases e2 : cg t1 with
    | stuck => trivial
    | exn x t' => trivial
    | ok b t2 =>
      rw [e2] at z2
      obtain ⟨b2, ρ2, g2, rfl, m2⟩ := z2
      obtain ⟨ρ3, g3, m3⟩ := mt_put (sv := eg b) (s := sg b) m2 (hp b t2).1 (hg.m b).1
      obtain ⟨ρ4, g4, m4⟩ := mt_put (sv := ef a) (s := sf a) m3 (hp b t2).2 (hf.m a).1
      rw [seqM_ap, parM_ap g1 g2 (hf.m a).2 (hg.m b).2 g3 g4, seq_nx]
      exact hk a b t2 ρ4 m4
def GJ (Γ : τ → List Sp) (g : Dt → Mo Unit) (ex : Dt → Option β) (sp : β → τ → List Sp) : Prop := ∀ d t ρ b, Mt (Γ t) ρ → ex d = some b → ∃ ρ', g d ρ = .ok () ρ' ∧ Mt (sp b t) ρ'
def un1 (d : Dt) : Option Dt := some d
def un2 : Dt → Option (Dt × Dt)
  | .tuple [a, b] => some (a, b)
  | _ => none
def un3 : Dt → Option (Dt × Dt × Dt)
  | .tuple [a, b, c] => some (a, b, c)
  | _ => none
def un4 : Dt → Option (Dt × Dt × Dt × Dt)
  | .tuple [a, b, c, d] => some (a, b, c, d)
  | _ => none
theorem g_1 {i : Nat} (hp : ∀ t, nArg (Γ t)[i]? = true := by intro _; rfl) : GJ Γ (fun d => putS i (.val d)) un1 (fun d t => (Γ t).set i (.val d)) := fun d t ρ b hm e => by
  cases e
  exact mt_put (sv := .val d) (s := .val d) hm (hp t) rfl
theorem g_2 {i j : Nat} (hp : ∀ d t, nArg (Γ t)[i]? = true ∧ nArg ((Γ t).set i (.val d))[j]? = true := by intro _ _; exact ⟨rfl, rfl⟩) : GJ Γ (tupG (consG i (consG j nilG))) un2 (fun d t => ((Γ t).set i (.val d.1)).set j (.val d.2)) := fun d t ρ b hm e => by
  unfold un2 at e
  split at e
  · cases e
    rename_i a b
    obtain ⟨ρ1, e1, m1⟩ := mt_put (sv := .val a) (s := .val a) hm (hp a t).1 rfl
    obtain ⟨ρ2, e2, m2⟩ := mt_put (sv := .val b) (s := .val b) m1 (hp a t).2 rfl
    refine ⟨ρ2, ?_, m2⟩
    rw [tupG_t, consG_c, e1, bind_ok, consG_c, e2, bind_ok, nilG_n]
  · cases e
def paug (x : Dt) (cf : M τ Dt) : M τ Dt := match x with
  | .int n => pb cf fun d => pN d fun m => pr (.int (n + m))
  | _ => pz
def papp (ds : List Dt) (d : Dt) : M τ (List Dt) := pif (decide (ds.length < sizeLine)) (pr (ds ++ [d])) pz
theorem own_get {i : Nat} {G : List Sp} {o : Ob} {ρ : Rh} (hm : Mt G ρ) (h : G[i]? = some (.own o)) : getO i ρ = some o ∧ ∀ o', Mt (G.set i (.own o')) (putR i o' ρ) := by
  obtain ⟨x, ex, mx⟩ := mt_get hm h
  have mx' : x = some (.own o) := mx
  subst mx'
  refine ⟨by rw [getO_ap, ex]; rfl, fun o' => ?_⟩
  rw [putR_ap, ex, puK_own]
  exact mt_set (s := .own o') (x := some (.own o')) rfl i hm
def pput (ds : List Dt) (e d : Dt) : M τ (List Dt) := pN e fun j => pb (po (ixN ds.length j)) fun n => pr (ds.set n d)
theorem s_expr (hf : EJ X Γ f cf Γ1) (hk : SJ X Γ1 v c O) : SJ X Γ (seqM (exprM f) v) (pb cf fun _ => c) O := fun t ρ hm => by
  rw [seqM_ap, exprM_ap, bind_seq]
  refine tri_bind (hf t ρ hm) fun a t' b ρ' pp => ?_
  obtain ⟨rfl, q⟩ := pp
  rw [seq_nx]
  exact hk t' ρ' q

theorem s_if {cu cv : M τ κ} (hp : EJ X Γ p cp Γ1) (hu : SJ X Γ1 (seqM u w) cu O) (hv : SJ X Γ1 (seqM v w) cv O) : SJ X Γ (seqM (ifM p u v) w) (pite cp cu cv) O := fun t ρ hm => by
  rw [seqM_ap, ifM_ap, bind_seq]
  refine tri_bind (hp t ρ hm) fun a t' b ρ' pp => ?_
  obtain ⟨rfl, q⟩ := pp
  cases b with
  | true => exact hu t' ρ' q
  | false => exact hv t' ρ' q
def ONx (ΓJ : σ → τ → List Sp) : σ → τ → Fl → Rh → Prop := fun s t fl ρ => fl = .nx ∧ Mt (ΓJ s t) ρ
theorem s_join {ΓJ : σ → τ → List Sp} {cu cv : M τ σ} {k : σ → M τ κ} (hp : EJ X Γ p cp Γ1) (hu : SJ X Γ1 u cu (ONx ΓJ)) (hv : SJ X Γ1 v cv (ONx ΓJ)) (hk : ∀ s, SJ X (ΓJ s) w (k s) O) : SJ X Γ (seqM (ifM p u v) w) (pb (pite cp cu cv) k) O := fun t ρ hm => by
  rw [seqM_ap, ifM_ap, bind_seq]
  have e : pb (pite cp cu cv) k t = (cp t).bind fun b => pb (pif b cu cv) k := by
    show ((cp t).bind _).bind _ = _
    cases cp t <;> rfl
  rw [e]
  refine tri_bind (hp t ρ hm) fun a t' b ρ' pp => ?_
  obtain ⟨rfl, q⟩ := pp
  have fin : ∀ {cx : M τ σ} {x : Mo Fl}, SJ X Γ1 x cx (ONx ΓJ) → Tri ((cx t').bind k) ((x ρ').seq w) O X := fun {cx x} hx => by
    have z := hx t' ρ' q
    cases ec : cx t' with
    | stuck => trivial
    | exn y t2 =>
      rw [ec] at z
      obtain ⟨ρ2, e2, x2⟩ := z
      rw [e2]
      exact ⟨ρ2, rfl, x2⟩
    | ok s t2 =>
      rw [ec] at z
      obtain ⟨fl, ρ2, e2, rfl, m2⟩ := z
      rw [e2, seq_nx]
      exact hk s t2 ρ2 m2
  cases b with
  | true => exact fin hu
  | false => exact fin hv

inductive Lp (σ : Type) where
  | go (s : σ)
  | stop (s : σ)
  | rt (d : Dt)
def OL (ΓL : σ → τ → List Sp) (OR : Dt → τ → Rh → Prop) : Lp σ → τ → Fl → Rh → Prop := fun r t fl ρ => match r with
  | .go s => (fl = .nx ∨ fl = .ct) ∧ Mt (ΓL s t) ρ
  | .stop s => fl = .bk ∧ Mt (ΓL s t) ρ
  | .rt d => fl = .rt d ∧ OR d t ρ
def forR (body : Dt → σ → M τ (Lp σ)) : List Dt → σ → M τ (σ ⊕ Dt)
  | [], s => pr (.inl s)
  | d :: ds, s => pb (body d s) fun r => match r with
    | .go s => forR body ds s
    | .stop s => pr (.inl s)
    | .rt d => pr (.inr d)
def forP (body : Dt → σ → M τ (Lp σ)) : List Dt → σ → M τ σ
  | [], s => pr s
  | d :: ds, s => pb (body d s) fun r => match r with
    | .go s => forP body ds s
    | .stop s => pr s
    | .rt d => pz
variable {ΓL : σ → τ → List Sp} {OR : Dt → τ → Rh → Prop} {tg : Dt → Mo Unit} {ex : Dt → Option β}
def OF (ΓL : σ → τ → List Sp) (OR : Dt → τ → Rh → Prop) : σ ⊕ Dt → τ → Fl → Rh → Prop := fun r t fl ρ => match r with
  | .inl s => fl = .nx ∧ Mt (ΓL s t) ρ
  | .inr d => fl = .rt d ∧ OR d t ρ
def loopK (k : Mo Fl) (o : Out Fl) : Out Fl := match o with
  | .ok .nx ρ2 => k ρ2
  | .ok .ct ρ2 => k ρ2
  | .ok .bk ρ2 => .ok .nx ρ2
  | o => o
theorem forL_cons {g : Dt → Mo Unit} {b : Mo Fl} {d : Dt} {ds : List Dt} {ρ ρ1 : Rh} (h : g d ρ = .ok () ρ1) : forL g b (d :: ds) ρ = loopK (forL g b ds) (b ρ1) := by
  conv => lhs; unfold forL
  simp only [h]
  cases b ρ1 with
  | ok fl r => cases fl <;> rfl
  | exn _ _ => rfl
  | stuck => rfl
theorem forR_tri {sp : σ → β → τ → List Sp} {kb : σ → β → M τ (Lp σ)} (hg : ∀ s, GJ (ΓL s) tg ex (sp s)) (hb : ∀ s b, SJ X (sp s b) u (kb s b) (OL ΓL OR)) :
    ∀ (ds : List Dt) (s : σ) t ρ, Mt (ΓL s t) ρ → Tri (forR (fun d s => pb (po (ex d)) (kb s)) ds s t) (forL tg u ds ρ) (OF ΓL OR) X
  | [], s, t, ρ, hm => ⟨.nx, ρ, rfl, rfl, hm⟩
  | d :: ds, s, t, ρ, hm => by
    show Tri ((pb (po (ex d)) (kb s) t).bind _) _ _ _
    cases e : ex d with
    | none => trivial
    | some b =>
      obtain ⟨ρ1, e1, m1⟩ := hg s d t ρ b hm e
      have z := hb s b t ρ1 m1
      rw [forL_cons e1]
      show Tri ((kb s b t).bind _) _ _ _
      cases ek : kb s b t with
      | stuck => trivial
      | exn x t' =>
        rw [ek] at z
        obtain ⟨ρ2, e2, x2⟩ := z
        rw [e2]
        exact ⟨ρ2, rfl, x2⟩
      | ok r t' =>
        rw [ek] at z
        obtain ⟨fl, ρ2, e2, o2⟩ := z
        rw [e2]
        cases r with
        | go s' =>
          obtain ⟨hf, m2⟩ := o2
          have ih := forR_tri hg hb ds s' t' ρ2 m2
          rcases hf with rfl | rfl
          · exact ih
          · exact ih
        | stop s' =>
          obtain ⟨rfl, m2⟩ := o2
          exact ⟨.nx, ρ2, rfl, rfl, m2⟩
        | rt d' =>
          obtain ⟨rfl, m2⟩ := o2
          exact ⟨.rt d', ρ2, rfl, rfl, m2⟩
theorem forP_R {body : Dt → σ → M τ (Lp σ)} : ∀ (ds : List Dt) (s : σ) t, forP body ds s t = (forR body ds s t).bind fun r => match r with
    | .inl s => pr s
    | .inr _ => pz
  | [], s, t => rfl
  | d :: ds, s, t => by
    show (body d s t).bind _ = ((body d s t).bind _).bind _
    cases body d s t with
    | stuck => rfl
    | exn _ _ => rfl
    | ok r t' =>
      cases r with
      | go s' => exact forP_R ds s' t'
      | stop s' => rfl
      | rt d' => rfl
def pend (k : σ → M τ κ) (j : Dt → M τ κ) : σ ⊕ Dt → M τ κ := fun r => match r with
  | .inl s => k s
  | .inr d => j d
theorem s_forR {sp : σ → β → τ → List Sp} {kb : σ → β → M τ (Lp σ)} {it : Mo (List Dt)} {ci : M τ (List Dt)} {s0 : σ} {inj : Dt → κ} {k : σ → M τ κ} (hi : EJ X Γ it ci Γ1) (hw : ∀ t, Wk (Γ1 t) (ΓL s0 t)) (hg : ∀ s, GJ (ΓL s) tg ex (sp s))
    (hb : ∀ s b, SJ X (sp s b) u (kb s b) (OL ΓL fun d t ρ => O (inj d) t (.rt d) ρ)) (hk : ∀ s, SJ X (ΓL s) v (k s) O) : SJ X Γ (seqM (forM it tg u) v) (pb ci fun ds => pb (forR (fun d s => pb (po (ex d)) (kb s)) ds s0) (pend k fun d => pr (inj d))) O := fun t ρ hm => by
  rw [seqM_ap, forM_ap, bind_seq]
  refine tri_bind (hi t ρ hm) fun a t' b ρ' pp => ?_
  obtain ⟨rfl, q⟩ := pp
  have z := forR_tri hg hb b s0 t' ρ' (mt_wk (hw t') q)
  show Tri ((forR _ b s0 t').bind _) _ _ _
  cases e : forR (fun d s => pb (po (ex d)) (kb s)) b s0 t' with
  | stuck => trivial
  | exn x t2 =>
    rw [e] at z
    obtain ⟨ρ2, e2, x2⟩ := z
    rw [e2]
    exact ⟨ρ2, rfl, x2⟩
  | ok r t2 =>
    rw [e] at z
    obtain ⟨fl, ρ2, e2, o2⟩ := z
    rw [e2]
    cases r with
    | inl s =>
      obtain ⟨rfl, m2⟩ := o2
      rw [seq_nx]
      exact hk s t2 ρ2 m2
    | inr d =>
      obtain ⟨rfl, m2⟩ := o2
      exact ⟨.rt d, ρ2, rfl, m2⟩
theorem s_for {sp : σ → β → τ → List Sp} {kb : σ → β → M τ (Lp σ)} {it : Mo (List Dt)} {ci : M τ (List Dt)} {s0 : σ} {k : σ → M τ κ} (hi : EJ X Γ it ci Γ1) (hw : ∀ t, Wk (Γ1 t) (ΓL s0 t)) (hg : ∀ s, GJ (ΓL s) tg ex (sp s))
    (hb : ∀ s b, SJ X (sp s b) u (kb s b) (OL ΓL fun _ _ _ => False)) (hk : ∀ s, SJ X (ΓL s) v (k s) O) : SJ X Γ (seqM (forM it tg u) v) (pb ci fun ds => pb (forP (fun d s => pb (po (ex d)) (kb s)) ds s0) k) O := fun t ρ hm => by
  rw [seqM_ap, forM_ap, bind_seq]
  refine tri_bind (hi t ρ hm) fun a t' b ρ' pp => ?_
  obtain ⟨rfl, q⟩ := pp
  have z := forR_tri hg hb b s0 t' ρ' (mt_wk (hw t') q)
  show Tri ((forP _ b s0 t').bind _) _ _ _
  rw [forP_R]
  cases e : forR (fun d s => pb (po (ex d)) (kb s)) b s0 t' with
  | stuck => trivial
  | exn x t2 =>
    rw [e] at z
    obtain ⟨ρ2, e2, x2⟩ := z
    rw [e2]
    exact ⟨ρ2, rfl, x2⟩
  | ok r t2 =>
    rw [e] at z
    obtain ⟨fl, ρ2, e2, o2⟩ := z
    rw [e2]
    cases r with
    | inl s =>
      obtain ⟨rfl, m2⟩ := o2
      rw [seq_nx]
      exact hk s t2 ρ2 m2
    | inr d => exact o2.2.elim
def whP (cc : σ → M τ Bool) (b : σ → M τ (Lp σ)) : Nat → σ → M τ σ
  | 0, _ => pz
  | n + 1, s => pb (cc s) fun z => pif z (pb (b s) fun r => match r with
    | .go s => whP cc b n s
    | .stop s => pr s
    | .rt _ => pz) (pr s)
open Classical in
noncomputable def whileP (cc : σ → M τ Bool) (b : σ → M τ (Lp σ)) (s : σ) : M τ σ := fun t => if h : ∃ n, whP cc b n s t ≠ .stuck then whP cc b (choose h) s t else .stuck
theorem whP_tri {cc : σ → M τ Bool} {b : σ → M τ (Lp σ)} (hc : ∀ s, EJ X (ΓL s) p (cc s) (ΓL s)) (hb : ∀ s, SJ X (ΓL s) u (b s) (OL ΓL fun _ _ _ => False)) : ∀ (n : Nat) (s : σ) t ρ, Mt (ΓL s t) ρ → Tri (whP cc b n s t) (whileN p u n ρ) (fun s t fl ρ => fl = .nx ∧ Mt (ΓL s t) ρ) X
  | 0, s, t, ρ, hm => trivial
  | n + 1, s, t, ρ, hm => by
    show Tri ((cc s t).bind _) (whB p u (whileN p u n) ρ) _ _
    have z := hc s t ρ hm
    unfold whB
    cases e : cc s t with
    | stuck => trivial
    | exn x t' =>
      rw [e] at z
      obtain ⟨ρ2, e2, x2⟩ := z
      rw [e2]
      exact ⟨ρ2, rfl, x2⟩
    | ok c t' =>
      rw [e] at z
      obtain ⟨c', ρ2, e2, rfl, m2⟩ := z
      rw [e2]
      cases c' with
      | false => exact ⟨.nx, ρ2, rfl, rfl, m2⟩
      | true =>
        show Tri ((b s t').bind _) _ _ _
        have z := hb s t' ρ2 m2
        dsimp only
        cases e3 : b s t' with
        | stuck => trivial
        | exn x t3 =>
          rw [e3] at z
          obtain ⟨ρ3, e4, x3⟩ := z
          rw [e4]
          exact ⟨ρ3, rfl, x3⟩
        | ok r t3 =>
          rw [e3] at z
          obtain ⟨fl, ρ3, e4, o3⟩ := z
          rw [e4]
          cases r with
          | go s' =>
            obtain ⟨hf, m3⟩ := o3
            have ih := whP_tri hc hb n s' t3 ρ3 m3
            rcases hf with rfl | rfl
            · exact ih
            · exact ih
          | stop s' =>
            obtain ⟨rfl, m3⟩ := o3
            exact ⟨.nx, ρ3, rfl, rfl, m3⟩
          | rt d => exact o3.2.elim
theorem s_while {cc : σ → M τ Bool} {b : σ → M τ (Lp σ)} {s0 : σ} {k : σ → M τ κ} (hw : ∀ t, Wk (Γ t) (ΓL s0 t)) (hc : ∀ s, EJ X (ΓL s) p (cc s) (ΓL s)) (hb : ∀ s, SJ X (ΓL s) u (b s) (OL ΓL fun _ _ _ => False)) (hk : ∀ s, SJ X (ΓL s) v (k s) O) : SJ X Γ (seqM (whileM p u) v) (pb (whileP cc b s0) k) O := fun t ρ hm => by
  rw [seqM_ap]
  show Tri ((whileP cc b s0 t).bind k) _ _ _
  unfold whileP
  by_cases h : ∃ n, whP cc b n s0 t ≠ .stuck
  · rw [dif_pos h]
    have hn := Classical.choose_spec h
    generalize Classical.choose h = n at hn ⊢
    have z := whP_tri hc hb n s0 t ρ (mt_wk (hw t) hm)
    have key : whileN p u n ρ ≠ .stuck := fun q => by
      rw [q] at z
      cases e : whP cc b n s0 t with
      | stuck => exact hn e
      | exn x t' => rw [e] at z; obtain ⟨_, e2, _⟩ := z; cases e2
      | ok x t' => rw [e] at z; obtain ⟨_, _, e2, _⟩ := z; cases e2
    rw [whileM_of key]
    cases e : whP cc b n s0 t with
    | stuck => exact (hn e).elim
    | exn x t' =>
      rw [e] at z
      obtain ⟨ρ2, e2, x2⟩ := z
      rw [e2]
      exact ⟨ρ2, rfl, x2⟩
    | ok s t' =>
      rw [e] at z
      obtain ⟨fl, ρ2, e2, rfl, m2⟩ := z
      rw [e2, seq_nx]
      exact hk s t' ρ2 m2
  · rw [dif_neg h]
    trivial

def wipeG (G : List Sp) : List Nat → List Sp
  | [] => G
  | v :: vs => (wipeG G vs).set v .any
theorem mt_wipe {G : List Sp} {ρ : Rh} (h : Mt G ρ) : ∀ vs : List Nat, Mt (wipeG G vs) (wipeR ρ vs)
  | [] => h
  | v :: vs => mt_set (s := .any) (x := none) (fun o h => nomatch h) v (mt_wipe h vs)
def mapP (q : Dt → M τ (Option Dt)) : List Dt → M τ (List Dt)
  | [] => pr []
  | d :: ds => pb (pnx (q d)) fun o => pb (mapP q ds) fun es => pr (o.toList ++ es)
def pcomp (ci : M τ (List Dt)) (q : Dt → M τ (Option Dt)) : M τ (List Dt) := pb ci fun ds => pif (decide (ds.length < sizeLine)) (mapP q ds) pz
/-- one turn: the target, the test, the item -/
def pel (ex : Dt → Option β) (cp : β → M τ Bool) (cf : β → M τ Dt) : Dt → M τ (Option Dt) := fun d => pb (po (ex d)) fun b => pite (cp b) (pb (cf b) fun e => pr (some e)) (pr none)
section
variable {Γw : τ → List Sp} {sp Γt Γe : β → τ → List Sp} {cp : β → M τ Bool} {cf : β → M τ Dt} {vs : List Nat}
abbrev XT : τ → Rh → Prop := fun _ _ => True
theorem compL_tri (hg : GJ Γw tg ex sp) (ht : ∀ b, EJ XT (sp b) p (cp b) (Γt b)) (he : ∀ b, EJ XT (Γt b) f (cf b) (Γe b)) (w1 : ∀ b t, Wk (wipeG (Γt b t) vs) (Γw t)) (w2 : ∀ b t, Wk (wipeG (Γe b t) vs) (Γw t)) :
    ∀ (ds acc : List Dt) t ρ, Mt (Γw t) ρ → Tri (mapP (pel ex cp cf) ds t) (compL tg p f vs ds acc ρ) (fun es t b ρ => b = acc ++ es ∧ Mt (Γw t) ρ) X
  | [], acc, t, ρ, hm => ⟨acc, ρ, rfl, by simp, hm⟩
  | d :: ds, acc, t, ρ, hm => by
    show Tri (((pel ex cp cf d t).nx).bind _) _ _ _
    unfold pel
    cases e : ex d with
    | none => trivial
    | some b =>
      obtain ⟨ρ1, e1, m1⟩ := hg d t ρ b hm e
      have z := ht b t ρ1 m1
      unfold compL
      rw [e1]
      dsimp only
      show Tri ((((cp b t).bind _)).nx.bind _) _ _ _
      cases e2 : cp b t with
      | stuck => trivial
      | exn x t' => trivial
      | ok c t2 =>
        rw [e2] at z
        obtain ⟨c', ρ2, e3, rfl, m2⟩ := z
        rw [e3]
        cases c' with
        | false =>
          dsimp only
          have ih := compL_tri hg ht he w1 w2 ds acc t2 _ (mt_wk (w1 b t2) (mt_wipe m2 vs))
          show Tri ((mapP (pel ex cp cf) ds t2).bind _) _ _ _
          cases ei : mapP (pel ex cp cf) ds t2 with
          | stuck => trivial
          | exn x t' => rw [ei] at ih; exact ih
          | ok es t' => rw [ei] at ih; exact ih
        | true =>
          dsimp only
          have z := he b t2 ρ2 m2
          show Tri (((cf b t2).bind _).nx.bind _) _ _ _
          cases e4 : cf b t2 with
          | stuck => trivial
          | exn x t' => trivial
          | ok d2 t3 =>
            rw [e4] at z
            obtain ⟨d3, ρ3, e5, rfl, m3⟩ := z
            rw [e5]
            dsimp only
            have ih := compL_tri hg ht he w1 w2 ds (acc ++ [d3]) t3 _ (mt_wk (w2 b t3) (mt_wipe m3 vs))
            show Tri ((mapP (pel ex cp cf) ds t3).bind _) _ _ _
            cases ei : mapP (pel ex cp cf) ds t3 with
            | stuck => trivial
            | exn x t' => rw [ei] at ih; exact ih
            | ok es t' =>
              rw [ei] at ih
              obtain ⟨b', ρ', g1, rfl, g2⟩ := ih
              exact ⟨_, ρ', g1, by show acc ++ [d3] ++ es = acc ++ ([d3] ++ es); rw [List.append_assoc], g2⟩
theorem has_of {G : List Sp} {ρ : Rh} {vs : List Nat} (hm : Mt G ρ) (hn : (vs.all fun i => nArg G[i]?) = true) : (vs.all fun i => !hasArg ρ i) = true := by
  rw [List.all_eq_true] at hn ⊢
  intro i hi
  have n := hn i hi
  cases e : G[i]? with
  | none => rw [e] at n; cases n
  | some s =>
    obtain ⟨x, ex, mx⟩ := mt_get hm e
    rw [e] at n
    have := ms_narg mx n
    unfold hasArg
    rw [ex]
    match x, this with
    | none, _ => rfl
    | some (.val _), _ => rfl
    | some (.own _), _ => rfl
    | some (.arg o), z => exact (z o rfl).elim
theorem mapP_nx {q : Dt → M τ (Option Dt)} : ∀ (ds : List Dt) t x t', mapP q ds t ≠ .exn x t'
  | [], t, x, t', h => nomatch h
  | d :: ds, t, x, t', h => by
    have h' : ((q d t).nx).bind (fun o => pb (mapP q ds) fun es => pr (o.toList ++ es)) = .exn x t' := h
    cases e : q d t with
    | stuck => rw [e] at h'; cases h'
    | exn y t2 => rw [e] at h'; cases h'
    | ok o t2 =>
      rw [e] at h'
      have h2 : (mapP q ds t2).bind (fun es => pr (o.toList ++ es)) = .exn x t' := h'
      cases e2 : mapP q ds t2 with
      | stuck => rw [e2] at h2; cases h2
      | exn y t3 => exact mapP_nx ds t2 y t3 e2
      | ok o t3 => rw [e2] at h2; cases h2
theorem o_comp {it : Mo (List Dt)} {ci : M τ (List Dt)} (hi : EJ X Γ it ci Γ1) (w0 : ∀ t, Wk (wipeG (Γ1 t) vs) (Γw t)) (hg : GJ Γw tg ex sp) (ht : ∀ b, EJ XT (sp b) p (cp b) (Γt b)) (he : ∀ b, EJ XT (Γt b) f (cf b) (Γe b)) (w1 : ∀ b t, Wk (wipeG (Γt b t) vs) (Γw t)) (w2 : ∀ b t, Wk (wipeG (Γe b t) vs) (Γw t))
    (hn : ∀ t, (vs.all fun i => nArg (Γ1 t)[i]?) = true := by intro _; rfl) : OJ X Γ (compM it tg p f vs) (pcomp ci (pel ex cp cf)) Γw := fun t ρ hm => by
  unfold compM
  rw [bnd_ap]
  refine tri_bind (hi t ρ hm) fun a t' b ρ' pp => ?_
  obtain ⟨rfl, q⟩ := pp
  have hh := has_of q (hn t')
  unfold pif
  by_cases z : b.length < sizeLine
  · simp only [decide_eq_true z, if_true, hh, Bool.and_self]
    have ih := compL_tri (X := X) hg ht he w1 w2 b [] t' _ (mt_wk (w0 t') (mt_wipe q vs))
    cases e : mapP (pel ex cp cf) b t' with
    | stuck => trivial
    | exn x t2 => exact (mapP_nx _ _ _ _ e).elim
    | ok es t2 =>
      rw [e] at ih
      obtain ⟨b', ρ2, g1, rfl, g2⟩ := ih
      rw [g1]
      exact ⟨_, ρ2, rfl, rfl, g2⟩
  · simp only [decide_eq_false z]
    exact trivial
end
def mapI (q : Dt → M τ (Option Dt)) : List Dt → List Dt → M τ (List Dt)
  | [], acc => pr acc
  | d :: ds, acc => pb (pnx (q d)) fun o => match o with
    | some e => pif (decide (acc.length < sizeLine)) (mapI q ds (acc ++ [e])) pz
    | none => mapI q ds acc
def flatI (q : Dt → List Dt → M τ (List Dt)) : List Dt → List Dt → M τ (List Dt)
  | [], acc => pr acc
  | d :: ds, acc => pb (pnx (q d acc)) fun acc => flatI q ds acc
def pcomp2 (ci : M τ (List Dt)) (q : Dt → List Dt → M τ (List Dt)) : M τ (List Dt) := pb ci fun ds => flatI q ds []
def pel2 (ex : Dt → Option β) (cp : β → M τ Bool) (ci1 : β → M τ (List Dt)) (q1 : β → Dt → M τ (Option Dt)) : Dt → List Dt → M τ (List Dt) := fun d acc => pb (po (ex d)) fun b => pite (cp b) (pb (ci1 b) fun es => mapI (q1 b) es acc) (pr acc)
section
variable {Γw : τ → List Sp} {sp Γt Γi : β → τ → List Sp} {cp : β → M τ Bool} {vs vs1 : List Nat} {tg1 : Dt → Mo Unit} {ex1 : Dt → Option γ} {Γv : β → τ → List Sp} {sp1 Γt1 Γe1 : β → γ → τ → List Sp} {cp1 : β → γ → M τ Bool} {cf1 : β → γ → M τ Dt} {p1 : Mo Bool} {it1 : Mo (List Dt)} {ci1 : β → M τ (List Dt)}
end

def Oret (X : τ → Rh → Prop) : Dt → τ → Fl → Rh → Prop := fun d t fl ρ => (fl = .rt d ∨ fl = .nx ∧ d = .none) ∧ X t ρ
theorem backs_vals : ∀ (ds : List Dt) (ρ : Rh), backs (ds.map .val) ρ = ds.map .val
  | [], _ => rfl
  | d :: ds, [] => rfl
  | d :: ds, x :: xs => by
    show pick (.val d) x :: backs (ds.map .val) xs = _
    rw [pick_v, backs_vals ds xs]; rfl
theorem mt_nones : ∀ n : Nat, Mt (List.replicate n .any) (List.replicate n none)
  | 0 => trivial
  | n + 1 => ⟨(fun o h => nomatch h), mt_nones n⟩
theorem mt_app : ∀ {G G' : List Sp} {ρ ρ' : Rh}, Mt G ρ → Mt G' ρ' → Mt (G ++ G') (ρ ++ ρ')
  | [], G', [], ρ', _, h => h
  | [], _, _ :: _, _, h, _ => h.elim
  | _ :: _, _, [], _, h, _ => h.elim
  | a :: G, G', x :: ρ, ρ', h, h' => ⟨h.1, mt_app h.2 h'⟩
theorem mt_vals : ∀ ds : List Dt, Mt (ds.map Sp.val) ((ds.map Sv.val).map some)
  | [] => trivial
  | d :: ds => ⟨rfl, mt_vals ds⟩
abbrev Xu : Unit → Rh → Prop := fun _ _ => True
theorem fnj_at {ds : List Dt} {n : Nat} {b : Mo Fl} {c : M Unit Dt} (h : SJ Xu (fun _ => ds.map Sp.val ++ List.replicate (n - ds.length) Sp.any) b c (Oret Xu)) : FPo (c ()) (fnD n b (ds.map .val)) (ds.map .val) := by
  have hm : Mt (ds.map Sp.val ++ List.replicate (n - ds.length) Sp.any) ((ds.map Sv.val).map some ++ List.replicate (n - (ds.map Sv.val).length) none) := by
    rw [List.length_map]
    exact mt_app (mt_vals ds) (mt_nones _)
  have z := h () _ hm
  rw [fnD_ap]
  cases e : c () with
  | stuck => trivial
  | exn x t =>
    rw [e] at z
    obtain ⟨ρ, e2, _⟩ := z
    rw [e2]
    show FOut.exn x (backs (ds.map .val) ρ) = _
    rw [backs_vals]
  | ok d t =>
    rw [e] at z
    obtain ⟨fl, ρ, e2, hf, _⟩ := z
    rw [e2]
    rcases hf with rfl | ⟨rfl, rfl⟩
    · show FOut.ok d (backs (ds.map .val) ρ) = _
      rw [backs_vals]
    · show FOut.ok .none (backs (ds.map .val) ρ) = _
      rw [backs_vals]
/-- what stands proved of a function with slots is as good as a plain one -/
noncomputable def ofFn (fn : Fn) (ds : List Dt) : M Unit Dt := fun _ => match fn (ds.map .val) with
  | .ok d rs => (open Classical in if rs = ds.map .val then .ok d () else .stuck)
  | .exn x rs => (open Classical in if rs = ds.map .val then .exn x () else .stuck)
  | .stuck => .stuck
theorem j_ofFn (fn : Fn) : FnJ fn (ofFn fn) := fun ds => by
  unfold ofFn
  cases e : fn (ds.map .val) with
  | stuck => trivial
  | ok d rs =>
    dsimp only
    split
    · rename_i h; rw [h]; exact rfl
    · trivial
  | exn d rs =>
    dsimp only
    split
    · rename_i h; rw [h]; exact rfl
    · trivial
theorem ofFn_ok {fn : Fn} {ds : List Dt} {d : Dt} {t : Unit} (h : fn (ds.map .val) = .ok d (ds.map .val)) : ofFn fn ds t = .ok d () := by
  unfold ofFn
  rw [h]
  exact if_pos rfl
theorem ofFn_exn {fn : Fn} {ds : List Dt} {x : Exn} {t : Unit} (h : fn (ds.map .val) = .exn x (ds.map .val)) : ofFn fn ds t = .exn x () := by
  unfold ofFn
  rw [h]
  exact if_pos rfl
noncomputable def ofFnR (fn : Fn) (ds : List Dt) : M (List Dt) Dt := fun r => match fn (.arg (.lst r) :: ds.map .val) with
  | .ok d (.arg (.lst r') :: rs) => (open Classical in if rs = ds.map .val then .ok d r' else .stuck)
  | _ => .stuck
theorem j_ofFnR (fn : Fn) : FnR fn (ofFnR fn) := fun r ds => by
  unfold ofFnR
  cases e : fn (.arg (.lst r) :: ds.map .val) with
  | stuck => trivial
  | exn d rs => trivial
  | ok d rs =>
    match rs with
    | [] => trivial
    | .val _ :: _ => trivial
    | .own _ :: _ => trivial
    | .arg (.dk _) :: _ => trivial
    | .arg (.dt _) :: _ => trivial
    | .arg (.lst r') :: rs =>
      dsimp only
      by_cases h : rs = ds.map .val
      · rw [if_pos h, h]
      · rw [if_neg h]; trivial
theorem ofFnR_ok {fn : Fn} {r r' : List Dt} {ds : List Dt} {d : Dt} (h : fn (.arg (.lst r) :: ds.map .val) = .ok d (.arg (.lst r') :: ds.map .val)) : ofFnR fn ds r = .ok d r' := by
  unfold ofFnR
  rw [h]
  exact if_pos rfl
def prow (c : M (List Dt) Dt) (r : List Dt) : M Unit Dt := fun _ => match c r with
  | .ok d _ => .ok d ()
  | .exn x _ => .exn x ()
  | .stuck => .stuck
end
theorem s_row {Γ Γ1 : Unit → List Sp} {fo : Mo Ob} {cl : M Unit (List Dt)} {v : Mo Fl} {i : Nat} {k : M (List Dt) Dt} (hf : OJ Xu Γ fo cl Γ1) (hk : SJ XT (fun r => (Γ1 ()).set i (.own (.lst r))) v k (Oret XT)) (hp : ∀ t, nArg (Γ1 t)[i]? = true := by intro _; rfl) : SJ Xu Γ (seqM (setO i fo) v) (pb cl (prow k)) (Oret Xu) := fun t ρ hm => by
  rw [seqM_ap, setO_ap, bind_seq]
  refine tri_bind (hf t ρ hm) fun a t' b ρ' pp => ?_
  obtain ⟨rfl, q⟩ := pp
  obtain ⟨ρ2, e, q2⟩ := mt_put (sv := .own (.lst a)) (s := .own (.lst a)) q (hp t') rfl
  rw [e, bind_ok, seq_nx]
  have z := hk a ρ2 q2
  unfold prow
  cases e2 : k a with
  | stuck => trivial
  | exn x t2 =>
    rw [e2] at z
    obtain ⟨ρ3, e3, _⟩ := z
    exact ⟨ρ3, e3, trivial⟩
  | ok d t2 =>
    rw [e2] at z
    obtain ⟨fl, ρ3, e3, hfl, _⟩ := z
    exact ⟨fl, ρ3, e3, hfl, trivial⟩
theorem j_true {fn : Fn} {P : List Dt → M Unit Dt} (D : FnJ fn P) {d : Dt} (h : P [d] () = .ok (.bool true) ()) : (fn [.val d]).isTrue := by
  have z := D [d]
  rw [h] at z
  rw [show fn [.val d] = _ from z]
  rfl
end DN

set_option maxHeartbeats 4000000
namespace DN
open PySem PySem.Spec L2 PyProof.Rows SrtO
section
variable {prog : Program} {w : World} {A : Around} {E : Value → Shared → Prop} {s : Shared}
theorem lexA {fin b : Bool} {Q : Bool → Shared → Prop} {xs ys : List Value} {ns ms : List Int} (i : Nat) (hx : IntsAre xs ns) (hy : IntsAre ys ms) (hf : fin = decide (ns.length < ms.length))
    (h : Q (HT.lexLt ns ms) s) : PySem.W.KatLex prog w A b fin Q (xs.zip ys) i s := by
  induction hx generalizing ys ms i with
  | nil =>
    cases hy with
    | nil =>
      rw [HT.lexLt_nil_nil] at h
      have : fin = false := by rw [hf]; simp
      rw [← this] at h
      exact PySem.W.kat_nil h
    | cons q u hy =>
      rw [HT.lexLt_nil_cons] at h
      have : fin = true := by rw [hf]; simp
      rw [← this] at h
      exact PySem.W.kat_nil h
  | @cons p t xs ns hx ih =>
    cases hy with
    | nil =>
      rw [HT.lexLt_cons_nil] at h
      have : fin = false := by rw [hf]; simp
      rw [← this] at h
      exact PySem.W.kat_nil h
    | @cons q u ys ms hy =>
      rw [HT.lexLt_cons] at h
      refine PySem.W.kat_cons (wpAny_eqBool_int ?_)
      by_cases e : p = q
      · subst e
        rw [if_pos rfl] at h
        rw [beq_self_eq_true]
        refine PySem.W.kat_yes ?_
        first
          | exact ih (i + 1) hy (by rw [hf]; simp) h
          | exact ih _ _ (i + 1) hy (by rw [hf]; simp) h
      · rw [if_neg e] at h
        rw [show (p == q) = false from beq_eq_false_iff_ne.mpr e]
        exact PySem.W.kat_no (TS.oneLt_ints _ h)
/-- tuples of ints, none of them empty -/
def TupsA (h : Heap) (k : Value → List Int) (vs : List Value) : Prop := ∀ v, v ∈ vs → TS.TupInts h v (k v) ∧ k v ≠ []
theorem TupsA.keeps {h h' : Heap} {k : Value → List Int} {vs : List Value} (x : TupsA h k vs) (q : ∀ b o, h.get? b = some o → o.cls = .type "tuple" → h'.get? b = some o) : TupsA h' k vs := fun v hv => ⟨(x v hv).1.keeps q, (x v hv).2⟩
theorem firsts_A {h : Heap} {k : Value → List Int} : ∀ vs : List Value, TupsA h k vs → ∃ fs, PySem.W.KatTups h vs fs ∧ fs.length = vs.length ∧ ∀ f, f ∈ fs → ∃ n t, f = Value.int n t
  | [], _ => ⟨[], PySem.W.KatTups.nil, rfl, fun f hf => by simp at hf⟩
  | v :: vs, x => by
    obtain ⟨fs, kk, hl, hi⟩ := firsts_A vs fun u hu => x u (List.mem_cons_of_mem _ hu)
    obtain ⟨⟨a, xs, e, ⟨o, ho, hc, n, hdt⟩, i⟩, hn⟩ := x v (List.mem_cons_self ..)
    obtain ⟨y, ys, e1⟩ : ∃ y ys, xs.toList = y :: ys := by
      cases q : xs.toList with
      | nil =>
        rw [q] at i
        have l := i.length
        rw [List.length_nil] at l
        exact (hn (List.eq_nil_of_length_eq_zero l.symm)).elim
      | cons y ys => exact ⟨y, ys, rfl⟩
    obtain ⟨m, t, hy⟩ := i.all y (by rw [e1]; exact List.mem_cons_self ..)
    rw [e]
    refine ⟨y :: fs, PySem.W.KatTups.cons ho hc hdt ?_ kk, by simp [hl], ?_⟩
    · have z := congrArg (fun l : List Value => l[0]?) e1
      simpa using z
    · intro f hf
      rcases List.mem_cons.mp hf with rfl | hf
      · exact ⟨m, t, hy⟩
      · exact hi f hf
theorem cmp_A {k : Value → List Int} {vs : List Value} (x : TupsA s.heap k vs) : Cmp prog w A s (tuples' true) (fun p => p.1 ∈ vs) (lt2 fun v u => HT.lexLt (k v) (k u)) := by
  intro p q hm hm'
  obtain ⟨⟨a, xs, e, ⟨o, ho, hc, n, hd⟩, i⟩, _⟩ := x _ hm
  obtain ⟨⟨a', xs', e', ⟨o', ho', hc', n', hd'⟩, i'⟩, _⟩ := x _ hm'
  show wpAny (model prog w) A (keyLt' (tuples' true) p.1 q.1) (fun r s' => s' = s ∧ r = HT.lexLt (k p.1) (k q.1)) (fun _ _ => False) s
  generalize k p.1 = ns at i ⊢
  generalize k q.1 = ms at i' ⊢
  rw [e, e']
  refine PySem.W.kat_lt ho hd ho' hd' (lexA 0 i i' ?_ ⟨rfl, rfl⟩)
  have z1 : xs.size = ns.length := by rw [← i.length]; simp
  have z2 : xs'.size = ms.length := by rw [← i'.length]; simp
  rw [z1, z2]
theorem sortable_A {a : Addr} {k : Value → List Int} {vs : List Value} (h0 : 0 < vs.length) (x : TupsA s.heap k vs) (ha : ∀ o, s.heap.get? a = some o → o.cls ≠ .type "tuple") : SortableO prog w A s a vs fun v u => HT.lexLt (k v) (k u) := by
  intro h' keep
  have x' : TupsA h' k vs := x.keeps fun b o e c => keep b o (fun z => by subst z; exact ha o e c) e
  obtain ⟨fs, h1, h2, h3⟩ := firsts_A vs x'
  refine ⟨tuples' true, fun Q E hq => ?_, cmp_A x'⟩
  refine PySem.W.kat_kind (T := .type "int") h1 (by omega) (fun f hm => ?_) (by rfl) ?_
  · obtain ⟨x, t, rfl⟩ := h3 f hm
    exact PySem.W.Looks.now
  · have e : (Value.type "int" != Value.type "tuple") = true := by first | decide +kernel | rfl | decide
    rw [e]
    exact hq
theorem sorted_A {l : Addr} {vs : List Value} {k : Value → List Int} {Q : Value → Shared → Prop} (hl : s.heap.IsList l vs.toArray) (hz : vs.length ≤ sizeLine) (x : TupsA s.heap k vs)
    (h : ∀ (h' : Heap) (d : Addr) (out : List Value), Srtd (fun v u => HT.lexLt (k v) (k u)) out → Stb (fun v u => HT.lexLt (k v) (k u)) out vs → (∀ b o, s.heap.get? b = some o → h'.get? b = some o) → s.heap.objs.size ≤ d → (∃ n, h'.get? d = some (seqObj "list" out.toArray n)) → Q (.ref d) { s with heap := h' }) :
    wpAny (model prog w) A (call (.builtin "sorted") [.ref l]) Q E s := by
  refine sorted_ord (NtL.swo_lexL k) hl hz (fun h2 h₁ a ha kk => ?_) fun out hs hb => ?_
  · refine sortable_A (s := { s with heap := h₁ }) (by omega) (x.keeps fun b o e _ => (kk b o e).2) fun o e => ?_
    have e' : some o = some (seqObj "list" vs.toArray 0) := e.symm.trans ha
    cases e'
    intro c
    exact absurd (Value.type.inj c) (by decide)
  · exact h _ _ out hs hb (fun b o e => sortedAll_old e) (Nat.le_succ _) (sortedAll_at s.heap vs out.toArray)
end

abbrev ltL (k : V → List Int) (x y : V) : Bool := HT.lexLt (k x) (k y)
/-- sorted(xs), xs a list of tuples of ints -/
def rSortedA (K : PySem.W.Frag) : List V → Hp → VK → Prop := fun vs H Q => ∃ (a : Addr) (xs : List V) (ks : List (List Int)), vs = [V.ref a] ∧ SqL K H a xs ∧ Paired (fun x n => ∃ t, x = V.ref t ∧ SqT K H t (n.map V.int) ∧ n ≠ []) xs ks ∧
  ∀ (k : V → List Int) ys p, Paired (fun x n => k x = n) xs ks → Srtd (ltL k) ys → Stb (ltL k) ys xs → H p = none → Q (.ref p) (upd H p (.lst ys))
/-- sorted(d), the keys of d tuples of ints -/
def rSortedT : List V → Hp → VK → Prop := fun vs H Q => ∃ (a : Addr) (kvs : List (List Key × V)) (k : List Key → List Int), vs = [V.ref a] ∧ H a = some (.dT kvs) ∧ (∀ q ∈ kvs, q.1 = (k q.1).map Sum.inl ∧ k q.1 ≠ []) ∧
  ∀ (bs : List Addr) (ys : List V) (p : Addr) (g : V → List Int), IsKeys H kvs bs → (∀ x ∈ bs.map V.ref, ∃ q ∈ kvs, ∃ t, x = V.ref t ∧ H t = some (.tup ((g x).map V.int)) ∧ g x = k q.1) → Srtd (ltL g) ys → Stb (ltL g) ys (bs.map V.ref) → H p = none → Q (.ref p) (upd H p (.lst ys))
theorem tup_at {X : Cx} {pins : List (Addr × Obj)} {σ : L2.St} {H : Hp} {s : Shared} (I : L2.Inv X pins σ H s) {t : Addr} {ns : List Int} (ht : H t = some (.tup (ns.map V.int))) : TS.TupInts s.heap (.ref t) ns := by
  obtain ⟨_, its2, r2, o, ho, hc, n, hd⟩ := I.hok _ _ ht
  exact ⟨t, its2.toArray, rfl, ⟨o, ho, hc, n, hd⟩, by simpa using ints_vals r2⟩
theorem tup_sq {X : Cx} {pins : List (Addr × Obj)} {σ : L2.St} {H : Hp} {s : Shared} (I : L2.Inv X pins σ H s) {t : Addr} {ns : List Int} (ht : SqT X.K H t (ns.map V.int)) : TS.TupInts s.heap (.ref t) ns := by
  obtain ⟨its, r, pl, hz⟩ := I.tuple ht
  exact ⟨t, _, rfl, pl, by simpa using ints_vals r⟩
theorem ofInts_inj : ∀ {ns ms : List Int}, ns.map V.int = ms.map V.int → ns = ms
  | [], [], _ => rfl
  | [], _ :: _, h => by simp at h
  | _ :: _, [], h => by simp at h
  | n :: ns, m :: ms, h => by
    rw [List.map_cons, List.map_cons] at h
    injection h with h1 h2
    cases h1
    rw [ofInts_inj h2]
section
variable {X : Cx}
theorem paired_at {α β : Type} {F : α → β → Prop} : ∀ {l : List α} {m : List β}, Paired F l m → ∀ x ∈ l, ∃ y, F x y
  | _, _, .nil, x, h => nomatch h
  | _, _, .cons q t, x, h => by
    rcases List.mem_cons.mp h with rfl | h
    · exact ⟨_, q⟩
    · exact paired_at t x h
/-- the key as it stands in the heap -/
def hk (h : Heap) (x : V) : List Int := match x with
  | .ref t => TS.intsOf h (.ref t)
  | _ => []
theorem cr_sortedA : CallR X (.builtin "sorted") (rSortedA X.K) := by
  intro pins s σ H vs us Q I r h
  obtain ⟨a, xs, ks, rfl, hs, hx, q⟩ := h
  obtain ⟨its, rv, hl, hz⟩ := I.list hs
  obtain ⟨u, rfl, ru⟩ := vals1 r
  obtain rfl : u = Value.ref a := ru
  have hx1 : ∀ x ∈ xs, ∃ t n, x = V.ref t ∧ SqT X.K H t (List.map V.int n) ∧ n ≠ [] := fun x m => by
    obtain ⟨n, t, e1, e2, e3⟩ := paired_at hx x m
    exact ⟨t, n, e1, e2, e3⟩
  obtain ⟨e1, e2⟩ := refs_back rv fun x m => by
    obtain ⟨t, n, e, _⟩ := hx1 x m
    exact ⟨t, e⟩
  refine sorted_A (k := fun u => hk s.heap (backV u)) hl.isList (by rw [← rv.length]; exact hz) (fun v hv => ?_) fun h' d out h1 h2 kp hd hn => ?_
  · obtain ⟨t, rfl⟩ := e2 v hv
    have hm : V.ref t ∈ xs := by rw [e1]; exact List.mem_map.mpr ⟨_, hv, rfl⟩
    obtain ⟨t', n, e, ht, hne⟩ := hx1 _ hm
    cases e
    have ti := tup_sq I ht
    show TS.TupInts s.heap (.ref t) (TS.intsOf s.heap (.ref t)) ∧ TS.intsOf s.heap (.ref t) ≠ []
    rw [ti.ints]
    exact ⟨ti, hne⟩
  · have h3 : ∀ u ∈ out, ∃ a, u = Value.ref a := fun u hu => e2 u (h2.perm.mem_iff.mp hu)
    obtain ⟨n, hn⟩ := hn
    have hb : Stb (ltL (hk s.heap)) (out.map backV) xs := by
      rw [e1]
      exact Stb.map (NtL.swo_lexL (hk s.heap)) backV h2
    have hp : Paired (fun x n => hk s.heap x = n) xs ks := by
      have go : ∀ {xs : List V} {ks : List (List Int)}, Paired (fun x n => ∃ t, x = V.ref t ∧ SqT X.K H t (List.map V.int n) ∧ n ≠ []) xs ks → Paired (fun x n => hk s.heap x = n) xs ks := by
        intro xs ks h
        induction h with
        | nil => exact .nil
        | cons z _ ih =>
          obtain ⟨t, rfl, ht, _⟩ := z
          exact .cons (tup_sq I ht).ints ih
      exact go hx
    refine ⟨.ref d, upd H d (.lst (out.map backV)), I.laid (t' := s.toks) kp hd ⟨?_, out, n, vals_back h3, hn⟩, rfl, q _ _ d hp (srtd_map h1) hb (I.hok.fresh hd)⟩
    rw [hb.len]
    exact hz
theorem paired_get {α β : Type} {F : α → β → Prop} : ∀ {l : List α} {m : List β}, Paired F l m → ∀ y ∈ m, ∃ x ∈ l, F x y
  | _, _, .nil, y, h => nomatch h
  | _, _, .cons q t, y, h => by
    rcases List.mem_cons.mp h with rfl | h
    · exact ⟨_, List.mem_cons_self, q⟩
    · obtain ⟨x, hx, r⟩ := paired_get t y h
      exact ⟨x, List.mem_cons_of_mem _ hx, r⟩
theorem kV_ints (ns : List Int) : (ns.map (Sum.inl : Int → Key)).map kV = ns.map V.int := by rw [List.map_map]; rfl
open Classical in
/-- what ints stand in the heap under an address -/
noncomputable def keyOf (H : Hp) (x : V) : List Int := if hh : ∃ ns, ∃ t, x = V.ref t ∧ H t = some (.tup (List.map V.int ns)) then hh.choose else []
theorem keyOf_at {H : Hp} {t : Addr} {ns : List Int} (ht : H t = some (.tup (List.map V.int ns))) : keyOf H (V.ref t) = ns := by
  have hh : ∃ ns, ∃ t', V.ref t = V.ref t' ∧ H t' = some (.tup (List.map V.int ns)) := ⟨ns, t, rfl, ht⟩
  unfold keyOf
  rw [dif_pos hh]
  obtain ⟨t', e1, e2⟩ := hh.choose_spec
  cases e1
  rw [ht] at e2
  injection e2 with e2
  injection e2 with e2
  exact (ofInts_inj e2).symm
theorem cr_sortedT (hc : X.calm = true) : CallR X (.builtin "sorted") rSortedT := by
  intro pins s σ H vs us Q I r h
  obtain ⟨a, kvs, k, rfl, hd, hk, q⟩ := h
  obtain ⟨u, rfl, ru⟩ := vals1 r
  obtain rfl : u = Value.ref a := ru
  obtain ⟨z, hs, ks, pr, o, es, ep, ho, hx, hdt, he, hn⟩ := (show ObjOk X.prog X.w H s.heap a (.dT kvs) from I.hok _ _ hd)
  have l1 : es.size = ks.length := size_of_entries he
  have l2 : kvs.length = ks.length := Paired.length pr
  refine Calls.call_function_entry kind_sorted plain_sorted entry_sorted (args_sorted1 _) ?_
  unfold Builtin.«sorted»
  refine wpAny_bind (m := checkCount "sorted" 1 1 _) (wpAny_pure ?_)
  refine wpAny_bind (PySem.W.kdu_collect (A := X.A.in1) (kdl_raw hs hx hdt) (I.ok.hd hc) ho (by omega) fun h' tk acc kp it => ?_)
  have ea : acc.toList = ks.map fun x => Value.ref x.2.1 := by
    have hl : acc.toList.length = ks.length := by rw [Array.length_toList, it.1]; exact l1
    apply List.ext_getElem?
    intro j
    rw [List.getElem?_map]
    cases hj : acc.toList[j]? with
    | none =>
      have h1 := List.getElem?_eq_none_iff.mp hj
      rw [List.getElem?_eq_none (by omega)]
      all_goals rfl
    | some v =>
      obtain ⟨en, hen, hv⟩ := it.2 j v (by rw [← Array.getElem?_toList]; exact hj)
      have qe := entry_at he j
      rw [hen] at qe
      cases hb : ks[j]? with
      | none =>
        rw [hb] at qe
        exact nomatch (show some en = none from qe)
      | some b =>
        rw [hb] at qe
        have e2 : en = entryOfKey (tupleKind (mixKind X.prog X.w)) b := Option.some.inj qe
        rw [hv, e2]
        all_goals rfl
  have eb : acc.toList = (ks.map fun x => x.2.1).map Value.ref := by rw [ea, List.map_map]; all_goals rfl
  generalize ebs : (ks.map fun x => x.2.1) = bs at eb
  have ik : IsKeys H kvs bs := by rw [← ebs]; exact isKeys_of pr
  have lb : bs.length = ks.length := by rw [← ebs, List.length_map]
  have I1 : Inv X pins σ H { s with heap := h', toks := tk } := I.kept kp
  have hg : ∀ t ns, H t = some (.tup (List.map V.int ns)) → keyOf H (V.ref t) = ns := fun t ns ht => keyOf_at ht
  generalize keyOf H = g at hg
  have hall : ∀ x ∈ bs.map V.ref, ∃ q ∈ kvs, ∃ t, x = V.ref t ∧ H t = some (.tup ((g x).map V.int)) ∧ g x = k q.1 := fun x hx => by
    obtain ⟨b, hb, rfl⟩ := List.mem_map.mp hx
    obtain ⟨q, hq, hF⟩ := paired_get ik b hb
    have h1 := (hk q hq).1
    have hF' : H b = some (.tup ((k q.1).map V.int)) := by
      have h2 : q.1.map kV = (k q.1).map V.int := by rw [← kV_ints]; exact congrArg (List.map kV) h1
      have : H b = some (.tup (q.1.map kV)) := hF
      rwa [h2] at this
    exact ⟨q, hq, b, rfl, by rw [hg b _ hF']; exact hF', hg b _ hF'⟩
  have x0 : TupsA { s with heap := h', toks := tk }.heap (fun u => g (backV u)) (bs.map Value.ref) := fun v hv => by
    obtain ⟨b, hb, rfl⟩ := List.mem_map.mp hv
    obtain ⟨q, hq, t, e, ht, ek⟩ := hall (V.ref b) (List.mem_map.mpr ⟨b, hb, rfl⟩)
    cases e
    refine ⟨tup_at I1 ht, ?_⟩
    show g (V.ref b) ≠ []
    rw [ek]
    exact (hk q hq).2
  refine wpAny_bind (wpAny_newList ?_ (by rw [eb, List.length_map]; omega))
  rw [eb]
  have hoL : (h'.push (seqObj "list" (bs.map Value.ref).toArray 0)).get? h'.objs.size = some (seqObj "list" (bs.map Value.ref).toArray 0) := Heap.get?_push_size _ rfl
  show wpAny _ _ _ _ _ { s with heap := h'.push (seqObj "list" (bs.map Value.ref).toArray 0), toks := tk }
  have hz2 : (bs.map Value.ref).length ≤ sizeLine := by rw [List.length_map]; omega
  refine wpAny_bind (wpAny_holding (wpAny_call_entry slot_list_sort ⟨_, hoL, rfl⟩ entry_list_sort (list_sort_ord (s := { s with heap := h'.push (seqObj "list" (bs.map Value.ref).toArray 0), toks := tk }) (NtL.swo_lexL fun u => g (backV u)) hoL hz2 (fun h2 => ?_) fun out h1 h2 => ⟨_, rfl, ?_⟩) (args_list_sort _)))
  · refine sortable_A (by omega) (x0.keeps fun b o e _ => Heap.get?_push_of_some _ e) fun o e => ?_
    have e' : some o = some (seqObj "list" (bs.map Value.ref).toArray 0) := e.symm.trans hoL
    cases e'
    intro c
    exact absurd (Value.type.inj c) (by decide)
  · obtain ⟨e', he'⟩ := sortedHeap_at (vs := bs.map Value.ref) (out := out.toArray) hoL
    have h3 : ∀ u ∈ out, ∃ a, u = Value.ref a := fun u hu => by
      obtain ⟨b, _, e⟩ := List.mem_map.mp (h2.perm.mem_iff.mp hu)
      exact ⟨b, e.symm⟩
    have hb : Stb (ltL g) (out.map backV) (bs.map V.ref) := by
      have := Stb.map (NtL.swo_lexL g) backV h2
      rwa [List.map_map] at this
    have hlen : (out.map backV).length ≤ sizeLine := by rw [hb.len, List.length_map]; omega
    refine wpAny_pure ⟨_, rfl, .ref h'.objs.size, upd H h'.objs.size (.lst (out.map backV)), I1.laid (t' := tk) (fun b u e => ?_) (Nat.le_refl _) ⟨hlen, out, e', vals_back h3, by simpa using he'⟩, rfl, q bs _ _ g ik hall (srtd_map h1) hb (I1.hok.fresh (Nat.le_refl _))⟩
    have hlt : b < h'.objs.size := Heap.lt_size e
    have e3 := Heap.get?_push_of_some (seqObj "list" (bs.map Value.ref).toArray 0) e
    rw [sortedHeap_old (Nat.ne_of_lt hlt) (Heap.lt_size e3)]
    exact e3
end
end DN

set_option maxHeartbeats 4000000
namespace DN
open PySem PySem.Spec PyProof.Rows L2 Srt SrtO SrtR
section
variable {prog : Program} {w : World} {A : Around} {E : Value → Shared → Prop} {s : Shared}
theorem took_tup {tp : Addr} {us : List Value} {Q : List Value → Shared → Prop} (it : IsTup s.heap tp us.toArray) (few : us.length ≤ sizeLine)
    (k : Q us { s with heap := (s.heap.push (seqObj "list" #[] 0)).update s.heap.objs.size (Obj.mapSeq (· ++ us.toArray)) }) : wpAny (model prog w) A (collect (.ref tp)) Q E s := by
  obtain ⟨ob, got, isT, ep, dat⟩ := id it
  have got2 : (s.heap.push (seqObj "list" #[] 0)).get? tp = some ob := Heap.get?_push_of_some _ got
  have room : ((#[] : Array Value) ++ us.toArray).size ≤ sizeLine + 1 := by simp only [Array.size_append, List.size_toArray, List.length_nil]; omega
  have none' : ((#[] : Array Value) ++ us.toArray).toList = us := by simp
  unfold collect
  refine wpAny_bind (wpAny_runValue (codeAny_builtin entry_proto_collect' (show wpAny _ _ (do again (.builtin "list.__iadd__" ⟨[← newList [], .ref tp], []⟩)) _ _ s from wpAny_bind (wpAny_newList (wpAny_pure ⟨Code.quiet_builtin _ (by decide +kernel), codeAny_builtin entry_list_iadd' ?_⟩)))))
  show wpAny _ _ (Builtin.List.listExtendWith (.ref s.heap.objs.size) (.ref tp) (.ref s.heap.objs.size)) _ _ { s with heap := s.heap.push (seqObj "list" #[] 0) }
  unfold Builtin.List.listExtendWith
  refine wpAny_bind (wpAny_typeOf (T := "tuple") ⟨ob, got2, isT⟩ ?_)
  rw [if_pos (by rw [show (Value.type "tuple" == Value.type "tuple") = true by rfl]; simp)]
  refine wpAny_bind (listItems_at got2 dat (wpAny_bind (listItems_at (xs := #[]) (n := 0) (Heap.get?_push_size _ rfl) rfl ?_)))
  rw [if_neg (by simp)]
  refine wpAny_bind (listUpdate_at (xs := #[]) (n := 0) (Heap.get?_push_size _ rfl) rfl (wpAny_pure ?_) (Nat.zero_le _) room)
  refine wpAny_bind (wpAny_load (get?_update_seq (Heap.get?_push_size _ rfl) _) (show wpAny _ _ (pure ((#[] : Array Value) ++ us.toArray).toList) Q E _ from ?_))
  rw [none']
  exact wpAny_pure k
theorem sort_tup {tp : Addr} {us : List Value} {b : Bool} {kw : List (Str × Value)} {lt : Value → Value → Bool} {Q : Value → Shared → Prop} (same : ∀ a, Builtin.«list.sort» ⟨[.ref a], kw⟩ = Builtin.«list.sort» ⟨[.ref a], [(Str.ofString "reverse", .bool b)]⟩)
    (ok1 : argsOk "sorted" ⟨[.ref tp], kw⟩) (ok2 : ∀ a, argsOk "list.sort" ⟨[a], kw⟩) (O : Swo lt) (it : IsTup s.heap tp us.toArray) (few : us.length ≤ sizeLine)
    (can : 2 ≤ us.length → ∀ (g : Heap) (a : Addr), g.get? a = some (seqObj "list" us.toArray 0) → SortableO prog w A.in1.in1 { s with heap := g } a us lt)
    (k : ∀ out : List Value, Srtd lt out → Stb lt out (if b = true then us.reverse else us) → Q (.ref (s.heap.objs.size + 1)) { s with heap := sortedAll s.heap us (if b = true then out.toArray.reverse else out.toArray) }) : wpAny (model prog w) A (call (.builtin "sorted") [.ref tp] kw) Q E s := by
  have one : ((s.heap.push (seqObj "list" #[] 0)).update s.heap.objs.size (Obj.mapSeq (· ++ us.toArray))).objs.size = s.heap.objs.size + 1 := by rw [Heap.size_update, size_push']
  obtain ⟨g, eg⟩ : ∃ g : Heap, g = (s.heap.push (seqObj "list" #[] 0)).update s.heap.objs.size (Obj.mapSeq (· ++ us.toArray)) := ⟨_, rfl⟩
  have new : (g.push (seqObj "list" us.toArray 0)).get? (s.heap.objs.size + 1) = some (seqObj "list" us.toArray 0) := by
    rw [eg, ← one]
    exact Heap.get?_push_size _ rfl
  refine call_function_entry_kw kind_sorted plain_sorted entry_sorted ok1 (show wpAny _ _ (Builtin.«sorted» _) _ _ _ from ?_)
  unfold Builtin.«sorted»
  refine wpAny_bind (m := checkCount "sorted" 1 1 _) (wpAny_pure (wpAny_bind (took_tup it few (wpAny_bind (wpAny_newList ?_ few)))))
  have one' : g.objs.size = s.heap.objs.size + 1 := by rw [eg]; exact one
  rw [← eg]
  show wpAny _ _ (do
      let _ ← holding [Value.ref g.objs.size] (call (Value.builtin "list.sort") [Value.ref g.objs.size] kw)
      PySem.ret (Value.ref g.objs.size)) _ _ { s with heap := g.push (seqObj "list" us.toArray 0) }
  rw [one']
  refine wpAny_bind (wpAny_holding (wpAny_call_entry_kw slot_list_sort ⟨_, new, rfl⟩ entry_list_sort ?_ (ok2 _)))
  rw [same]
  refine list_sort_ordR O new few (fun two => can two _ _ new) fun out h1 h2 => ⟨_, rfl, wpAny_pure ⟨_, rfl, ?_⟩⟩
  rw [eg]
  exact k out h1 h2
end
section
variable {X : Cx}
/-- sorted of a tuple of ints: b, from the greatest down -/
def rSortT (K : PySem.W.Frag) (b : Bool) (vs : List V) (H : Hp) (Q : VK) : Prop := ∃ (a : Addr) (ns : List Int), vs = [V.ref a] ∧ SqT K H a (ns.map V.int) ∧ ∀ (ms : List Int) (p : Addr), ms.Perm ns → OrdB b ms → H p = none → Q (.ref p) (upd H p (.lst (ms.map V.int)))
theorem sort_tup_run {b : Bool} {kw : List (Str × Value)} {pins : List (Addr × Obj)} {s : Shared} {σ : L2.St} {H : Hp} {a : Addr} {ns : List Int} {Q : VK} (I : Inv X pins σ H s) (st : SqT X.K H a (ns.map V.int))
    (same : ∀ a, Builtin.«list.sort» ⟨[.ref a], kw⟩ = Builtin.«list.sort» ⟨[.ref a], [(Str.ofString "reverse", .bool b)]⟩) (ok1 : argsOk "sorted" ⟨[.ref a], kw⟩) (ok2 : ∀ a, argsOk "list.sort" ⟨[a], kw⟩)
    (q : ∀ (ms : List Int) (p : Addr), ms.Perm ns → OrdB b ms → H p = none → Q (.ref p) (upd H p (.lst (ms.map V.int)))) : wpAny (model X.prog X.w) X.A (call (.builtin "sorted") [.ref a] kw) (EP X pins σ Q) X.xe s := by
  obtain ⟨us, rel, tup, small⟩ := I.tuple st
  have hi := rel.ints
  refine sort_tup same ok1 ok2 swo_int tup (by rw [← rel.length]; exact small) (fun two g a' _ => ints_sortable hi two) fun out h1 h2 => ?_
  obtain ⟨ms, m1, m2, m3⟩ := ints_outR hi h1 h2
  obtain ⟨ep, at_⟩ := sortedAll_at s.heap us (if b = true then out.toArray.reverse else out.toArray)
  have few : (ms.map V.int).length ≤ sizeLine := by rw [List.length_map, m2.length_eq, ← List.length_map (f := V.int)]; exact small
  have back : ((if b = true then out.toArray.reverse else out.toArray).toList).toArray = (if b = true then out.toArray.reverse else out.toArray) := Array.toArray_toList
  refine ⟨.ref _, upd H (s.heap.objs.size + 1) (.lst (ms.map V.int)), I.laid (t' := s.toks) (fun _ _ => sortedAll_old) (Nat.le_succ _) ⟨few, _, ep, vals_of_ints m1, ?_⟩, rfl, q _ _ m2 m3 (I.hok.fresh (Nat.le_succ _))⟩
  rw [back]
  exact at_
theorem no_kw (a : Addr) : Builtin.«list.sort» ⟨[.ref a], []⟩ = Builtin.«list.sort» ⟨[.ref a], [(Str.ofString "reverse", .bool false)]⟩ := by
  rw [list_sort_rev]
  kernel_rfl
theorem cr_sortT : CallR X (.builtin "sorted") (rSortT X.K false) := by
  intro pins s σ H vs us Q I r h
  obtain ⟨a, ns, rfl, st, q⟩ := h
  obtain ⟨u, rfl, ru⟩ := vals1 r
  obtain rfl : u = Value.ref a := ru
  exact sort_tup_run I st no_kw (args_sorted1 _) (fun _ => args_list_sort _) q
theorem cr_sortTR {b : Bool} : CallRK X (.builtin "sorted") [Str.ofString "reverse"] (fun vs zs H Q => zs = [.bl b] ∧ rSortT X.K b vs H Q) := by
  intro pins s σ H vs zs us ws Q I r rz h
  obtain ⟨rfl, a, ns, rfl, st, q⟩ := h
  obtain rfl := Vals.ref1 r
  obtain ⟨w1, rfl, e1⟩ := vals1 rz
  obtain rfl : w1 = Value.bool b := e1
  exact sort_tup_run I st (fun _ => rfl) (args_sorted_rev _ _) (fun _ => args_list_sort_rev _ _) q
end
end DN

namespace DN
open PySem PySem.Spec L2

def insS {α : Type} (lt : α → α → Bool) (x : α) : List α → List α
  | [] => [x]
  | y :: ys => if lt y x = true then y :: insS lt x ys else x :: y :: ys
def isort {α : Type} (lt : α → α → Bool) : List α → List α
  | [] => []
  | x :: xs => insS lt x (isort lt xs)
section
variable {α β : Type} {lt : α → α → Bool}
open SrtO
theorem insS_perm (x : α) : ∀ l : List α, (insS lt x l).Perm (x :: l)
  | [] => List.Perm.refl _
  | y :: ys => by
    unfold insS
    split
    · exact ((insS_perm x ys).cons y).trans (List.Perm.swap x y ys)
    · exact List.Perm.refl _
theorem isort_perm : ∀ l : List α, (isort lt l).Perm l
  | [] => List.Perm.refl _
  | x :: xs => (insS_perm x _).trans ((isort_perm xs).cons x)
theorem insS_srtd (O : Swo lt) (x : α) : ∀ {l : List α}, Srtd lt l → Srtd lt (insS lt x l)
  | [], _ => List.pairwise_singleton _ _
  | y :: ys, h => by
    unfold insS
    obtain ⟨h1, h2⟩ := List.pairwise_cons.mp h
    split
    · rename_i c
      refine List.pairwise_cons.mpr ⟨fun z hz => ?_, insS_srtd O x h2⟩
      rcases List.mem_cons.mp ((insS_perm x ys).mem_iff.mp hz) with rfl | hz
      · exact O.asym _ _ c
      · exact h1 z hz
    · rename_i c
      have c' : lt y x = false := by cases e : lt y x with
        | true => exact (c e).elim
        | false => rfl
      refine List.pairwise_cons.mpr ⟨fun z hz => ?_, h⟩
      rcases List.mem_cons.mp hz with rfl | hz
      · exact c'
      · exact O.tr _ _ _ c' (h1 z hz)
theorem isort_srtd (O : Swo lt) : ∀ l : List α, Srtd lt (isort lt l)
  | [] => List.Pairwise.nil
  | x :: xs => insS_srtd O x (isort_srtd O xs)
theorem insS_filter (O : Swo lt) (z x : α) : ∀ l : List α, (insS lt x l).filter (eqv lt z) = (x :: l).filter (eqv lt z)
  | [] => rfl
  | y :: ys => by
    unfold insS
    split
    · rename_i c
      rw [List.filter_cons, insS_filter O z x ys]
      by_cases e1 : eqv lt z y = true
      · by_cases e2 : eqv lt z x = true
        · exfalso
          have a := eqv_iff.mp e1
          have b := eqv_iff.mp e2
          have := O.tr x z y b.1 a.2
          rw [c] at this
          cases this
        · rw [if_pos e1, List.filter_cons, if_neg e2, List.filter_cons, if_neg e2, List.filter_cons, if_pos e1]
      · rw [if_neg e1]
        by_cases e2 : eqv lt z x = true
        · rw [List.filter_cons, if_pos e2, List.filter_cons, if_pos e2, List.filter_cons, if_neg e1]
        · rw [List.filter_cons, if_neg e2, List.filter_cons, if_neg e2, List.filter_cons, if_neg e1]
    · rfl
theorem isort_stb (O : Swo lt) : ∀ l : List α, Stb lt (isort lt l) l
  | [] => Stb.refl _
  | x :: xs => ⟨isort_perm _, fun z => by
    show (insS lt x (isort lt xs)).filter _ = _
    rw [insS_filter O, List.filter_cons, List.filter_cons, (isort_stb O xs).cls z]⟩
theorem isort_uniq (O : Swo lt) {l m : List α} (h : Srtd lt m) (s : Stb lt m l) : m = isort lt l :=
  stb_uniq O h (isort_srtd O l) (s.trans ⟨(isort_stb O l).perm.symm, fun z => ((isort_stb O l).cls z).symm⟩)
end
/-- tuples of ints, none empty -/
def unT : Dt → List Int
  | .tuple ds => (toInts ds).getD []
  | _ => []
def isTI : Dt → Bool
  | .tuple ds => (toInts ds).isSome && decide (ds ≠ [])
  | _ => false
def ltD (d e : Dt) : Bool := HT.lexLt (unT d) (unT e)
def ltI (d e : Int) : Bool := decide (d < e)
theorem ltI_swo : SrtO.Swo ltI := by
  refine ⟨fun x y h => ?_, fun x y z h1 h2 => ?_⟩
  · have := of_decide_eq_true h; exact decide_eq_false (by omega)
  · have := of_decide_eq_false h1; have := of_decide_eq_false h2; exact decide_eq_false (by omega)
def dSorted0 : List Dt → Option Dt
  | [.list ds] => match toInts ds with
    | some ns => some (.list ((isort ltI ns).map .int))
    | none => if ds.all isTI then some (.list (isort ltD ds)) else none
  | [.dict ((.bool true, _) :: ps)] => if (ps.map (·.1)).all isTI then some (.list (isort ltD (ps.map (·.1)))) else none
  | _ => none
theorem toInts_some : ∀ {ds : List Dt} {ns : List Int}, toInts ds = some ns → ds = ns.map .int
  | [], _, h => by cases h; rfl
  | d :: ds, ns, h => by
    cases d with
    | int i =>
      have h' : (toInts ds).map (i :: ·) = some ns := h
      cases e : toInts ds with
      | none => rw [e] at h'; cases h'
      | some ms =>
        rw [e] at h'
        cases h'
        rw [toInts_some e]; rfl
    | _ => cases h
theorem perm_le_uniq : ∀ {l m : List Int}, l.Perm m → l.Pairwise (· ≤ ·) → m.Pairwise (· ≤ ·) → l = m
  | [], m, h, _, _ => (List.Perm.eq_nil h.symm).symm
  | x :: l, [], h, _, _ => absurd h.length_eq (by simp)
  | x :: l, y :: m, h, hl, hm => by
    obtain ⟨a1, a2⟩ := List.pairwise_cons.mp hl
    obtain ⟨b1, b2⟩ := List.pairwise_cons.mp hm
    have e : x = y := by
      have h1 : x ≤ y := by
        rcases List.mem_cons.mp (h.mem_iff.mpr (List.mem_cons_self (a := y) (l := m))) with e | hy
        · omega
        · exact a1 y hy
      have h2 : y ≤ x := by
        rcases List.mem_cons.mp (h.mem_iff.mp (List.mem_cons_self (a := x) (l := l))) with e | hx
        · omega
        · exact b1 x hx
      omega
    subst e
    rw [perm_le_uniq h.cons_inv a2 b2]
theorem isTI_some {d : Dt} (h : isTI d = true) : ∃ ns : List Int, d = .tuple (ns.map .int) ∧ ns ≠ [] := by
  cases d with
  | tuple ds =>
    unfold isTI at h
    rw [Bool.and_eq_true] at h
    obtain ⟨ns, e⟩ := Option.isSome_iff_exists.mp h.1
    have e2 := toInts_some e
    refine ⟨ns, by rw [e2], fun z => ?_⟩
    have h2 := of_decide_eq_true h.2
    rw [e2, z] at h2
    exact h2 rfl
  | _ => cases h
theorem toInts_ints : ∀ ns : List Int, toInts (ns.map .int) = some ns
  | [] => rfl
  | n :: ns => by show (toInts (ns.map .int)).map (n :: ·) = _; rw [toInts_ints ns]; rfl
theorem unT_ints (ns : List Int) : unT (.tuple (ns.map .int)) = ns := by
  show (toInts (ns.map .int)).getD [] = ns
  rw [toInts_ints]; rfl
section
variable {K : PySem.W.Frag}
/-- two rows sorted alike stay paired -/
theorem paired_ins {α β : Type} {R : α → β → Prop} {k : α → List Int} {l : β → List Int} (hR : ∀ a b, R a b → k a = l b) {x : α} {d : β} (hx : R x d) : ∀ {xs : List α} {ds : List β}, Paired R xs ds → Paired R (insS (fun a b => HT.lexLt (k a) (k b)) x xs) (insS (fun a b => HT.lexLt (l a) (l b)) d ds)
  | _, _, .nil => .cons hx .nil
  | _, _, .cons (l₁ := xs) (l₂ := ds) h1 h2 => by
    unfold insS
    rw [hR _ _ h1, hR _ _ hx]
    split
    · exact .cons h1 (paired_ins hR hx h2)
    · exact .cons hx (.cons h1 h2)
theorem paired_isort {α β : Type} {R : α → β → Prop} {k : α → List Int} {l : β → List Int} (hR : ∀ a b, R a b → k a = l b) : ∀ {xs : List α} {ds : List β}, Paired R xs ds → Paired R (isort (fun a b => HT.lexLt (k a) (k b)) xs) (isort (fun a b => HT.lexLt (l a) (l b)) ds)
  | _, _, .nil => .nil
  | _, _, .cons h1 h2 => paired_ins hR h1 (paired_isort hR h2)
theorem df_isort {F : Hp} {k : V → List Int} {xs : List V} {ds : List Dt} (h : Paired (fun v d => Df K F v d ∧ k v = unT d) xs ds) : DfAll K F (isort (ltL k) xs) (isort ltD ds) := by
  have h2 := paired_isort (k := k) (l := unT) (fun _ _ z => z.2) h
  have go : ∀ {xs : List V} {ds : List Dt}, Paired (fun v d => Df K F v d ∧ k v = unT d) xs ds → DfAll K F xs ds := by
    intro xs ds h
    induction h with
    | nil => exact .nil
    | cons z _ ih => exact .cons z.1 ih
  exact go h2
theorem df_tup_at {F : Hp} {v : V} {ns : List Int} (h : Df K F v (.tuple (ns.map .int))) : ∃ t, v = .ref t ∧ TupAt K F t (ns.map V.int) (ns.map .int) := by
  generalize e : (PyData.tuple (ns.map .int)) = d at h
  cases h with
  | tup h1 h2 =>
    injection e with e
    subst e
    rw [dfAll_ints ns _ h2] at h1
    exact ⟨_, rfl, h1⟩
  | _ => cases e
theorem unK_ints : ∀ ns : List Int, (ns.map (Sum.inl : Int → Key)).map kD = ns.map PyData.int := fun ns => by rw [List.map_map]; rfl
theorem kD_ints : ∀ {ks : List Key} {ns : List Int}, ks.map kD = ns.map PyData.int → ks = ns.map Sum.inl
  | [], [], _ => rfl
  | [], _ :: _, h => by simp at h
  | _ :: _, [], h => by simp at h
  | k :: ks, n :: ns, h => by
    rw [List.map_cons, List.map_cons] at h
    injection h with h1 h2
    cases k with
    | inl i => cases h1; rw [kD_ints h2]; rfl
    | inr x => cases h1
theorem sortedOk0 : CallOk K (fun vs H Q => (rSortedI K vs H Q ∨ rSortedA K vs H Q) ∨ rSortedT vs H Q) dSorted0 := by
  intro F H vs ds z Q S dvs hz q
  unfold dSorted0 at hz
  split at hz
  · rename_i ds0
    cases dvs with
    | cons d1 d2 =>
      cases d2
      cases d1 with
      | lst h1 h2 =>
        split at hz
        · rename_i ns e
          cases hz
          have e2 := toInts_some e
          subst e2
          refine .inl (.inl ⟨_, ns, rfl, .inl (.inl (by rw [← dfAll_ints ns _ h2]; exact S _ _ h1)), fun ns' p hp hs hf => ?_⟩)
          have hs2 : (isort ltI ns).Pairwise (· ≤ ·) := (isort_srtd ltI_swo ns).imp fun {a b} h => by
            have := of_decide_eq_false h; omega
          have e3 : ns' = isort ltI ns := perm_le_uniq (hp.trans (isort_perm ns).symm) hs hs2
          subst e3
          exact q _ _ _ (.new hf) (.lst upd_same (ints_dpAll _))
        · split at hz
          · rename_i ha
            cases hz
            rw [List.all_eq_true] at ha
            have hpr : ∀ {xs : List V} {ds : List Dt}, DfAll K F xs ds → (∀ d ∈ ds, isTI d = true) → Paired (fun x n => ∃ t, x = V.ref t ∧ SqT K H t (List.map V.int n) ∧ n ≠ []) xs (ds.map unT) := by
              intro xs ds h
              induction ds generalizing xs with
              | nil => intro _; cases h; exact .nil
              | cons d ds ih =>
                intro ha
                cases h with
                | cons h1 h2 =>
                  obtain ⟨ns, e, hne⟩ := isTI_some (ha d List.mem_cons_self)
                  subst e
                  obtain ⟨t, rfl, ht⟩ := df_tup_at h1
                  refine .cons ⟨t, rfl, ?_, ?_⟩ (ih h2 fun d hd => ha d (List.mem_cons_of_mem _ hd))
                  · rw [unT_ints]; exact same_seqT S ht
                  · rw [unT_ints]; exact hne
            have hjoin : ∀ {F' : Hp} {k : V → List Int} {xs : List V} {ds : List Dt}, DfAll K F' xs ds → Paired (fun x n => k x = n) xs (ds.map unT) → Paired (fun v d => Df K F' v d ∧ k v = unT d) xs ds := by
              intro F' k xs ds h
              induction ds generalizing xs with
              | nil => intro _; cases h; exact .nil
              | cons d ds ih =>
                intro hp
                cases h with
                | cons h1 h2 =>
                  cases hp with
                  | cons p1 p2 => exact .cons ⟨h1, p1⟩ (ih h2 p2)
            refine .inl (.inr ⟨_, _, ds0.map unT, rfl, .inl (.inl (S _ _ h1)), hpr h2 ha, fun k ys p hp hs hb hf => ?_⟩)
            have e := isort_uniq (NtL.swo_lexL k) hs hb
            subst e
            exact q _ _ _ (.new hf) (.lst upd_same (df_isort (hjoin (dfAll_mono (same_upd (S.free hf)) h2) hp)))
          · cases hz
  · rename_i x0 ps
    split at hz
    · rename_i ha
      cases hz
      cases dvs with
      | cons d1 d2 =>
        cases d2
        cases d1 with
        | @dkt a ks kvs h1 h0 h2 =>
          rw [List.all_eq_true] at ha
          have hkk : ∀ kv ∈ kvs, ∃ ns : List Int, kv.1 = ns.map Sum.inl ∧ ns ≠ [] := fun kv hkv => by
            have m : (PyData.tuple (kv.1.map kD)) ∈ (dtD kvs).map (·.1) := by
              unfold dtD
              rw [List.map_map]
              exact List.mem_map.mpr ⟨kv, hkv, rfl⟩
            obtain ⟨ns, e, hne⟩ := isTI_some (ha _ m)
            injection e with e
            exact ⟨ns, kD_ints e, hne⟩
          have hks : ∀ q ∈ ks, ∃ ns : List Int, q.1 = ns.map Sum.inl ∧ ns ≠ [] := fun q hq => by
            have m : q.1 ∈ kvs.map (·.1) := by rw [← h0]; exact List.mem_map.mpr ⟨q, hq, rfl⟩
            obtain ⟨kv, hkv, e⟩ := List.mem_map.mp m
            obtain ⟨ns, e2, hne⟩ := hkk kv hkv
            exact ⟨ns, by rw [← e]; exact e2, hne⟩
          let kf : List Key → List Int := fun l => unT (.tuple (l.map kD))
          have hkf : ∀ ns : List Int, kf (ns.map Sum.inl) = ns := fun ns => by
            show unT (.tuple ((ns.map Sum.inl).map kD)) = ns
            rw [unK_ints, unT_ints]
          refine .inr ⟨_, ks, kf, rfl, S _ _ h1, fun q hq => ?_, fun bs ys p g hik hg hs hb hf => ?_⟩
          · obtain ⟨ns, e, hne⟩ := hks q hq
            rw [e, hkf]
            exact ⟨rfl, hne⟩
          · have e := isort_uniq (NtL.swo_lexL g) hs hb
            subst e
            -- the keys as they stand, as data
            have hik := hik
            have hb2 : ∀ b ∈ bs, ∃ xs, H b = some (.tup xs) := fun b hb => by
              obtain ⟨q, _, hF⟩ := paired_get hik b hb
              exact ⟨_, hF⟩
            let F1 : Hp := fun b => if b ∈ bs then H b else F b
            have S1 : Same F F1 := fun b o e => by
              show (if b ∈ bs then H b else F b) = some o
              split
              · exact S _ _ e
              · exact e
            have G1 : Grown F H F1 H := .tups S1 fun b o e => by
              have e' : (if b ∈ bs then H b else F b) = some o := e
              split at e'
              · rename_i hb
                obtain ⟨xs, ex⟩ := hb2 b hb
                rw [ex] at e'
                cases e'
                exact .inr ⟨ex, xs, rfl⟩
              · exact .inl e'
            have S2 : Same F1 H := (G1.sames S).2
            have hall : ∀ {ks : List (List Key × V)} {cs : List Addr} {kvs : List (List Key × Dt)}, IsKeys H ks cs → (∀ b ∈ cs, b ∈ bs) → ks.map (·.1) = kvs.map (·.1) → (∀ q ∈ ks, ∃ ns : List Int, q.1 = ns.map Sum.inl ∧ ns ≠ []) → Paired (fun v d => Df K F1 v d ∧ g v = unT d) (cs.map V.ref) ((dtD kvs).map (·.1)) := by
              intro ks cs kvs hk
              induction hk generalizing kvs with
              | nil =>
                intro _ e _
                cases kvs with
                | nil => exact .nil
                | cons _ _ => simp at e
              | @cons q b qs cs hF t ih =>
                intro hin e hn
                cases kvs with
                | nil => simp at e
                | cons kv kvs =>
                  rw [List.map_cons, List.map_cons] at e
                  injection e with e1 e2
                  obtain ⟨ns, en, _⟩ := hn q List.mem_cons_self
                  refine .cons ?_ (ih (fun b hb => hin b (List.mem_cons_of_mem _ hb)) e2 fun q hq => hn q (List.mem_cons_of_mem _ hq))
                  have hF' : H b = some (.tup (ns.map V.int)) := by
                    have : H b = some (.tup (q.1.map kV)) := hF
                    rw [en, kV_ints] at this
                    exact this
                  have hF1 : F1 b = some (.tup (ns.map V.int)) := by
                    show (if b ∈ bs then H b else F b) = _
                    rw [if_pos (hin b List.mem_cons_self)]
                    exact hF'
                  show Df K F1 (.ref b) (.tuple (kv.1.map kD)) ∧ g (.ref b) = unT (.tuple (kv.1.map kD))
                  rw [← e1, en, unK_ints, unT_ints]
                  refine ⟨.tup (.inl hF1) (ints_dpAll ns), ?_⟩
                  obtain ⟨_, _, t, z1, z2, _⟩ := hg (.ref b) (List.mem_map.mpr ⟨b, hin b List.mem_cons_self, rfl⟩)
                  cases z1
                  rw [hF'] at z2
                  injection z2 with z2
                  injection z2 with z2
                  exact (ofInts_inj z2).symm
            have hd := hall hik (fun b hb => hb) h0 hks
            refine q _ _ _ (.trans G1 (.new hf)) (.lst upd_same (df_isort ?_))
            have S3 : Same F1 (upd F1 p (HO.lst (isort (ltL g) (List.map V.ref bs)))) := same_upd (S2.free hf)
            have go : ∀ {xs : List V} {ds : List Dt}, Paired (fun v d => Df K F1 v d ∧ g v = unT d) xs ds → Paired (fun v d => Df K (upd F1 p (HO.lst (isort (ltL g) (List.map V.ref bs)))) v d ∧ g v = unT d) xs ds := by
              intro xs ds h
              induction h with
              | nil => exact .nil
              | cons z _ ih => exact .cons ⟨df_mono S3 z.1, z.2⟩ ih
            exact go hd
    · cases hz
  · cases hz
end
section
variable {K : PySem.W.Frag}
/-- a list, a tuple of ints; a list of tuples; a dict whose keys are tuples -/
def dSorted : List Dt → Option Dt
  | [.tuple ds] => (toInts ds).map fun ns => .list ((isort ltI ns).map .int)
  | vs => dSorted0 vs
theorem sortedOk : CallOk K (fun vs H Q => ((rSortedI K vs H Q ∨ rSortedA K vs H Q) ∨ rSortedT vs H Q) ∨ rSortT K false vs H Q) dSorted := by
  intro F H vs ds z Q S dvs hz q
  unfold dSorted at hz
  split at hz
  · rename_i ds0
    cases dvs with
    | cons d1 d2 =>
      cases d2
      cases e : toInts ds0 with
      | none => rw [e] at hz; cases hz
      | some ns =>
        rw [e] at hz
        cases hz
        have e2 := toInts_some e
        subst e2
        cases d1 with
        | tup h1 h2 =>
          refine .inr ⟨_, ns, rfl, ?_, fun ms p hp hs hf => ?_⟩
          · rw [← dfAll_ints ns _ h2]
            exact same_seqT S h1
          · have hs2 : (isort ltI ns).Pairwise (· ≤ ·) := (isort_srtd ltI_swo ns).imp fun {a b} h => by
              have := of_decide_eq_false h; omega
            have e3 : ms = isort ltI ns := perm_le_uniq (hp.trans (isort_perm ns).symm) hs hs2
            subst e3
            exact q _ _ _ (.new hf) (.lst upd_same (ints_dpAll _))
  · exact .inl (sortedOk0 F H vs _ z Q S dvs hz q)
/-- from the greatest down -/
def dSortR : List Dt → Option Dt
  | [.tuple ds] => (toInts ds).map fun ns => .list ((isort ltI ns).reverse.map .int)
  | _ => none
theorem down_uniq {l m : List Int} (h : l.Perm m) (hl : l.Pairwise (· ≥ ·)) (hm : m.Pairwise (· ≥ ·)) : l = m := by
  have a : l.reverse = m.reverse := perm_le_uniq ((List.reverse_perm l).trans (h.trans (List.reverse_perm m).symm)) (List.pairwise_reverse.2 hl) (List.pairwise_reverse.2 hm)
  have b := congrArg List.reverse a
  rwa [List.reverse_reverse, List.reverse_reverse] at b
theorem sortROk : CallOk K (rSortT K true) dSortR := by
  intro F H vs ds z Q S dvs hz q
  unfold dSortR at hz
  split at hz
  · rename_i ds0
    cases dvs with
    | cons d1 d2 =>
      cases d2
      cases e : toInts ds0 with
      | none => rw [e] at hz; cases hz
      | some ns =>
        rw [e] at hz
        cases hz
        have e2 := toInts_some e
        subst e2
        cases d1 with
        | tup h1 h2 =>
          refine ⟨_, ns, rfl, ?_, fun ms p hp hs hf => ?_⟩
          · rw [← dfAll_ints ns _ h2]
            exact same_seqT S h1
          · have hs2 : (isort ltI ns).Pairwise (· ≤ ·) := (isort_srtd ltI_swo ns).imp fun {a b} h => by
              have := of_decide_eq_false h; omega
            have e3 : ms = (isort ltI ns).reverse := down_uniq (hp.trans ((isort_perm ns).symm.trans (List.reverse_perm _).symm)) hs (List.pairwise_reverse.2 hs2)
            subst e3
            exact q _ _ _ (.new hf) (.lst upd_same (ints_dpAll _))
  · cases hz
end
end DN

namespace PySem.SeqAt
open AutoSeq1 (wpAny_loadPart')
open MeetsSeq
section
variable {A : Around} {s : Shared}
end
end PySem.SeqAt
namespace DN
open PySem PySem.Spec L2 PyProof.Rows
section
variable {X : Cx}
/-- a list, a tuple, a dict of the heap -/
inductive TyR (K : PySem.W.Frag) (H : Hp) : V → Prop where
  | lst {a : Addr} {xs : List V} (h : SqL K H a xs) : TyR K H (.ref a)
  | tup {a : Addr} {xs : List V} (h : SqT K H a xs) : TyR K H (.ref a)
  | dK {a : Addr} {kvs : List (Key × V)} (h : H a = some (.dK kvs)) : TyR K H (.ref a)
end
end DN

namespace DN
open PySem PySem.Spec L2
section
variable {ι : Type} {Xs : ι → Cx} {P : Program} {w : World} {K : PySem.W.Frag} {mg : Str → Option Value} {base : Heap} {N : List Str} {k : Nat} {Wx : WX} {EI : EIx}
variable {a b c e : Expr} {f g h : Mo Dt} {p pos pos' : Pos} {es : List Expr} {fa : Mo (List Dt)} {x y : Str}
theorem fe_sorted (G : Good Xs P w K mg base N k Wx) (hm : mg "sorted" = none) (ha : FA Xs K EI Wx [e] fa) (hg : ∀ i, Gl (Xs i) "sorted" := by intro _; rfl) (he : ∀ i, starEach [e] (Xs i).env = (false, eval e (Xs i).env) :: starEach [] (Xs i).env := by intro _; rfl) : FE Xs K EI Wx (.Call (.Name "sorted" p) [e] [] pos) (callB dSorted fa) :=
  fe_callB G (fun i => by
    have z := cr_or (cr_or (cr_or (@cr_sortedI (Xs i)) (@cr_sortedA (Xs i))) (@cr_sortedT (Xs i) (G.calm i))) (@cr_sortT (Xs i))
    rw [G.hK i] at z
    exact z) sortedOk hm PyProof.Rows.boot_sorted ha hg (by decide) (by decide) he
def dGcd : List Dt → Option Dt
  | [.int i, .int j] => some (.int ((Nat.gcd i.natAbs j.natAbs : Nat) : Int))
  | _ => none
theorem gcdOk : CallOk K rGcd dGcd := by
  intro F H vs ds z Q S dvs hz q
  unfold dGcd at hz
  split at hz
  · cases hz
    cases dvs with
    | cons d1 d2 =>
      cases d2 with
      | cons d2 d3 =>
        cases d3; cases d1; cases d2
        exact ⟨_, _, rfl, q _ F H .same (.int _)⟩
  · cases hz
theorem fe_gcd (G : Good Xs P w K mg base N k Wx) (hm : mg "gcd" = some (.builtin "math.gcd")) (ha : FA Xs K EI Wx (e :: es) fa) (hg : ∀ i, Gl (Xs i) "gcd" := by intro _; rfl)
    (hdb : (("gcd" : Str) == ("__debug__" : Str)) = false := by decide) (he : ∀ i, starEach (e :: es) (Xs i).env = (false, eval e (Xs i).env) :: starEach es (Xs i).env := by intro _; rfl) (hpl : ∀ i, (backTo pos (starEach es (Xs i).env)).any (·.1) = false := by intro _; rfl) :
    FE Xs K EI Wx (.Call (.Name "gcd" p) (e :: es) [] pos) (callB dGcd fa) := by
  obtain ⟨t, pa, qa⟩ := ha
  exact ⟨_, fun i => pe_callBfun cr_gcd (hg i) (by rw [G.hm i]; exact hm) (pa i) hdb (he i) (hpl i), re_callB qa gcdOk⟩

section
variable {κ : Type} [DecidableEq κ]
end
end
end DN

namespace DN
open PySem PySem.Spec L2 PyProof.Rows
section
variable {ι : Type} {Xs : ι → Cx} {P : Program} {w : World} {K : PySem.W.Frag} {mg : Str → Option Value} {base : Heap} {N : List Str} {k : Nat} {Wx : WX} {EI : EIx}
variable {a b c e : Expr} {f g h : Mo Dt} {p pos pos' : Pos} {es : List Expr} {fa : Mo (List Dt)} {x y : Str}
end
end DN
namespace DN
open PySem PySem.Spec L2
section
variable {ι : Type} {Xs : ι → Cx} {P : Program} {w : World} {K : PySem.W.Frag} {mg : Str → Option Value} {base : Heap} {N : List Str} {k : Nat} {Wx : WX} {EI : EIx}
variable {a b c e : Expr} {f : Mo Dt} {p : Mo Bool} {pos pos' : Pos} {x : Str} {it : Mo (List Dt)} {g : Dt → Mo Unit}
theorem re_frz {t : TE} {o : Mo Ob} (qa : RO K EI Wx t o) : RE K EI Wx t (frz o) := fun B F H ρ σ T Q R z => qa B F H ρ σ T Q R (by
  unfold frz bnd at z
  cases e : o ρ with
  | ok x ρ1 =>
    rw [e] at z
    intro t F1 H1 R1 S1
    obtain ⟨F2, S2, R2, d2⟩ := R1.settle
    exact z F2 H1 R2 (S1.trans S2) _ d2
  | exn x ρ1 => rw [e] at z; exact z
  | stuck => rw [e] at z; exact z)
/-- x = [.. for ..], a list that is not changed later -/
theorem fs_setCV (G : Good Xs P w K mg base N k Wx) (i : Nat) {tg elt : Expr} {ifs : List Expr} {scope : Scope} (own : List (Str × Nat)) (sc : Scope) {vs : List Nat} (hi : FI Xs K EI Wx tg a it) (hg : FG (blks Xs scope) K tg vs g) (ht : FTs (blks Xs scope) K EI W0 ifs p) (he : FE (blks Xs scope) K EI W0 elt f) {spos : Pos}
    (hN : N[i]? = some x := by rfl) (hl : ∀ j, (Xs j).env.scope.names.lookup x = some .local := by intro _; rfl) (hsw : ∀ j, swapsWith (.ListComp elt [⟨tg, a, ifs, 0⟩] scope pos) (some (.Name x pos')) spos.line (Xs j).env = pure true := by intro _; exact sw_true rfl rfl rfl (by decide +kernel))
    (hv : own.map (·.2) = vs := by rfl) (hsc : ∀ i, (Xs i).env.scope = sc := by intro _; rfl) (hok : blkC N sc scope own = true := by decide +kernel) (hs : ∀ i x, foldedSetIterable a (Xs i).env x = pure x := by intro _ _; rfl) : FS Xs K EI Wx (.Assign [.Name x pos'] (.ListComp elt [⟨tg, a, ifs, 0⟩] scope pos) spos) (setM i (frz (compM it g p f vs))) := by
  obtain ⟨wi, pi, qi⟩ := hi
  obtain ⟨gg, pg, qg⟩ := hg
  obtain ⟨tt, pt, qt⟩ := ht
  obtain ⟨te, pe, qe⟩ := he
  subst hv
  refine ⟨_, fun j => ps_setLc (i := i) (own := own) (G.calm j) (by rw [G.hN j]; exact G.nd) (by rw [G.hN j]; exact hN) (hl j) (hsw j) (pi j) (by rw [G.hN j, hsc j]; exact blkOk_by hok) (fun s H C cl fp => pg (j, s, H, C, cl, fp)) (fun s H C cl fp => pt (j, s, H, C, cl, fp)) (fun s H C cl fp => pe (j, s, H, C, cl, fp)) (hs j), rs_set (re_frz (ro_comp qi qg qt qe))⟩
end
end DN

namespace DN
open PySem PySem.Spec L2
section
variable {τ α β γ κ σ : Type} {X X' : τ → Rh → Prop} {Γ Γ1 Γ2 Γ3 : τ → List Sp}
variable {f g h : Mo Dt} {cf cg ch : M τ Dt} {p q : Mo Bool} {cp cq : M τ Bool} {fa : Mo (List Dt)} {ca : M τ (List Dt)} {fo : Mo Ob} {cl : M τ (List Dt)} {u v w : Mo Fl}
variable {O : κ → τ → Fl → Rh → Prop} {k : α → M τ κ} {c : M τ κ}
def paugX (ds : List Dt) (e : Dt) (cf : M τ Dt) : M τ (List Dt) := pN e fun j => pb (po (atI ds j)) fun old => pN old fun n => pb cf fun d => pN d fun m => pput ds (.int j) (.int (n + m))
end
end DN

namespace DN
open PySem PySem.Spec L2
section
variable {τ α β γ κ σ : Type} {t : τ}
theorem pb_ap {m : M τ α} {k : α → M τ β} : pb m k t = (m t).bind k := (rfl)
theorem rb_ok {a : α} {k : α → M τ β} : (R.ok a t).bind k = k a t := (rfl)
theorem pr_ap {a : α} : (pr a : M τ α) t = .ok a t := (rfl)
theorem pb_pr {a : α} {k : α → M τ β} : pb (pr a) k = k a := (rfl)
theorem pb_pz {k : α → M τ β} : pb pz k = pz := (rfl)
theorem pb_pb {m : M τ α} {k : α → M τ β} {k' : β → M τ γ} : pb (pb m k) k' = pb m fun a => pb (k a) k' := by
  funext t
  show ((m t).bind k).bind k' = (m t).bind _
  cases m t <;> rfl
theorem po_s {a : α} : (po (some a) : M τ α) = pr a := (rfl)
theorem po_n : (po none : M τ α) = pz := (rfl)
theorem pif_t {c d : M τ α} : pif true c d = c := (rfl)
theorem pif_f {c d : M τ α} : pif false c d = d := (rfl)
theorem lift0_pr {a : α} : lift0 (pr a) = (pr a : M τ α) := (rfl)
theorem pnx_pr {a : α} : (pnx (pr a) : M τ α) = pr a := (rfl)
theorem p2_d {o : Dt → Dt → Option Dt} {cf cg : M τ Dt} : p2 o cf cg = pb cf fun d => pb cg fun e => po (o d e) := (rfl)
theorem p1_d {o : Dt → Option Dt} {cf : M τ Dt} : p1 o cf = pb cf fun d => po (o d) := (rfl)
theorem pB_b {b : Bool} {k : Bool → M τ α} : pB (.bool b) k = k b := (rfl)
theorem pasB_d {cf : M τ Dt} : pasB cf = pb cf fun d => pB d pr := (rfl)
theorem pasT_d {cf : M τ Dt} : pasT cf = pb cf pT := (rfl)
theorem pT_n : (pT .none : M τ Bool) = pr false := (rfl)
theorem pT_b {b : Bool} : (pT (.bool b) : M τ Bool) = pr b := (rfl)
theorem pT_i {i : Int} : (pT (.int i) : M τ Bool) = pr (i != 0) := (rfl)
theorem pT_l {ds : List Dt} : (pT (.list ds) : M τ Bool) = pr (!ds.isEmpty) := (rfl)
theorem pT_t {ds : List Dt} : (pT (.tuple ds) : M τ Bool) = pr (!ds.isEmpty) := (rfl)
theorem pchain_d {o o' : Dt → Dt → Option Dt} {cf cg ch : M τ Dt} : pchain o o' cf cg ch = pb cf fun x => pb cg fun y => pb (po (o x y)) fun r => pB r fun b => pif b (pb ch fun z => po (o' y z)) (pr (.bool false)) := (rfl)
theorem pandM_d {cp cq : M τ Bool} : pandM cp cq = pb cp fun c => pif c cq (pr false) := (rfl)
theorem porM_d {cp cq : M τ Bool} : porM cp cq = pb cp fun c => pif c (pr true) cq := (rfl)
theorem pnotM_d {cp : M τ Bool} : pnotM cp = pb cp fun c => pr (!c) := (rfl)
theorem pandV_d {cf cg : M τ Dt} : pandV cf cg = pb cf fun d => pB d fun b => pif b cg (pr (.bool false)) := (rfl)
theorem porV_d {cf cg : M τ Dt} : porV cf cg = pb cf fun d => pB d fun b => pif b (pr (.bool true)) cg := (rfl)
theorem pnotV_d {cf : M τ Dt} : pnotV cf = pb cf fun d => pB d fun b => pr (.bool (!b)) := (rfl)
theorem pite_d {cp : M τ Bool} {c d : M τ α} : pite cp c d = pb cp fun b => pif b c d := (rfl)
theorem pcons_d {cf : M τ Dt} {ca : M τ (List Dt)} : pcons cf ca = pb cf fun d => pb ca fun ds => pr (d :: ds) := (rfl)
theorem ptup_d {ca : M τ (List Dt)} : ptup ca = pb ca fun ds => pif (decide (ds.length ≤ sizeLine)) (pr (.tuple ds)) pz := (rfl)
theorem plst_d {ca : M τ (List Dt)} : plst ca = pb ca fun ds => pif (decide (ds.length ≤ sizeLine)) (pr ds) pz := (rfl)
theorem pfrz_d {cl : M τ (List Dt)} : pfrz cl = pb cl fun ds => pr (.list ds) := (rfl)
theorem pix_d {ds : List Dt} {cg : M τ Dt} : pix ds cg = pb cg fun e => po (dIx (.list ds) e) := (rfl)
theorem ppart_d {cf : M τ Dt} : ppart cf = pb cf pI := (rfl)
theorem pI_i {i : Int} : (pI (.int i) : M τ (Option Int)) = pr (some i) := (rfl)
theorem pslice_d {cf : M τ Dt} {cl cu : M τ (Option Int)} : pslice cf cl cu = pb cf fun d => pb cl fun l => pb cu fun u => po (dSl d l u) := (rfl)
theorem pcall_d {o : List Dt → Option Dt} {ca : M τ (List Dt)} : pcall o ca = pb ca fun ds => po (o ds) := (rfl)
theorem ptyp_d {T : String} {cf : M τ Dt} : ptyp T cf = pb cf fun d => pif (isDt d) pz (pr (.bool (decide (kindOf d = T)))) := (rfl)
theorem pL_l {ds : List Dt} {k : List Dt → M τ α} : pL (.list ds) k = k ds := (rfl)
theorem pN_i {i : Int} {k : Int → M τ α} : pN (.int i) k = k i := (rfl)
theorem pS_l {ds : List Dt} : (pS' (.list ds) : M τ (List Dt)) = pr ds := (rfl)
theorem pS_t {ds : List Dt} : (pS' (.tuple ds) : M τ (List Dt)) = pr ds := (rfl)
theorem plis_d {cf : M τ Dt} : plis cf = pb cf pS' := (rfl)
theorem pcat_d {cf cg : M τ Dt} : pcat cf cg = pb cf fun d => pb cg fun e => pL d fun xs => pL e fun ys => pif (decide (xs.length + ys.length ≤ sizeLine)) (pr (xs ++ ys)) pz := (rfl)
theorem piter_d {cf : M τ Dt} : piter cf = pb cf fun d => po (itemsOf d) := (rfl)
theorem prng_d {o : List Dt → Option (List Dt)} {ca : M τ (List Dt)} : prng o ca = pb ca fun ds => po (o ds) := (rfl)
theorem prev_d {cf : M τ Dt} : prev cf = pb cf fun d => pN d fun j => pif (decide (-(2 ^ 62) ≤ j) && decide (j < 2 ^ 62)) (pr (rangeD 0 j.toNat).reverse) pz := (rfl)
theorem pfn_d {P : List Dt → M Unit Dt} {ca : M τ (List Dt)} : pfn P ca = pb ca fun ds => lift0 (P ds) := (rfl)
theorem pfnR_d {P : List Dt → M (List Dt) Dt} {ca : M (List Dt) (List Dt)} : pfnR P ca = pb ca fun ds => P ds := (rfl)
theorem paug_i {n : Int} {cf : M τ Dt} : paug (.int n) cf = pb cf fun d => pN d fun m => pr (.int (n + m)) := (rfl)
theorem small_lt {n : Nat} (h : n ≤ 60000) : n < sizeLine := Nat.lt_of_le_of_lt h (by decide)
theorem paugX_d {ds : List Dt} {e : Dt} {cf : M τ Dt} : paugX ds e cf = pN e fun j => pb (po (atI ds j)) fun old => pN old fun n => pb cf fun d => pN d fun m => pput ds (.int j) (.int (n + m)) := (rfl)
theorem pcomp_d {ci : M τ (List Dt)} {q : Dt → M τ (Option Dt)} : pcomp ci q = pb ci fun ds => pif (decide (ds.length < sizeLine)) (mapP q ds) pz := (rfl)
theorem pcomp2_d {ci : M τ (List Dt)} {q : Dt → List Dt → M τ (List Dt)} : pcomp2 ci q = pb ci fun ds => flatI q ds [] := (rfl)
theorem un1_d {d : Dt} : un1 d = some d := (rfl)
theorem un2_t {a b : Dt} : un2 (.tuple [a, b]) = some (a, b) := (rfl)
theorem un3_t {a b c : Dt} : un3 (.tuple [a, b, c]) = some (a, b, c) := (rfl)
theorem un4_t {a b c d : Dt} : un4 (.tuple [a, b, c, d]) = some (a, b, c, d) := (rfl)
theorem pel_d {ex : Dt → Option β} {cp : β → M τ Bool} {cf : β → M τ Dt} {d : Dt} : pel ex cp cf d = pb (po (ex d)) fun b => pite (cp b) (pb (cf b) fun e => pr (some e)) (pr none) := (rfl)
theorem pel2_d {ex : Dt → Option β} {cp : β → M τ Bool} {ci1 : β → M τ (List Dt)} {q1 : β → Dt → M τ (Option Dt)} {d : Dt} {acc : List Dt} : pel2 ex cp ci1 q1 d acc = pb (po (ex d)) fun b => pite (cp b) (pb (ci1 b) fun es => mapI (q1 b) es acc) (pr acc) := (rfl)
theorem pend_l {k : σ → M τ κ} {j : Dt → M τ κ} {s : σ} : pend k j (.inl s) = k s := (rfl)
theorem pend_r {k : σ → M τ κ} {j : Dt → M τ κ} {d : Dt} : pend k j (.inr d) = j d := (rfl)
theorem sl_le {n : Nat} (h : n ≤ 60000) : decide (n ≤ sizeLine) = true := decide_eq_true (Nat.le_of_lt (small_lt h))
theorem sl_lt {n : Nat} (h : n ≤ 60000) : decide (n < sizeLine) = true := decide_eq_true (small_lt h)
theorem sd0 : decide (0 ≤ sizeLine) = true := sl_le (by omega)
theorem sd1 : decide (0 + 1 ≤ sizeLine) = true := sl_le (by omega)
theorem sd2 : decide (0 + 1 + 1 ≤ sizeLine) = true := sl_le (by omega)
theorem sd3 : decide (0 + 1 + 1 + 1 ≤ sizeLine) = true := sl_le (by omega)
theorem sd4 : decide (0 + 1 + 1 + 1 + 1 ≤ sizeLine) = true := sl_le (by omega)
theorem sd5 : decide (0 + 1 + 1 + 1 + 1 + 1 ≤ sizeLine) = true := sl_le (by omega)
theorem sd6 : decide (0 + 1 + 1 + 1 + 1 + 1 + 1 ≤ sizeLine) = true := sl_le (by omega)
theorem mapP_eq {q : Dt → M τ (Option Dt)} (u : α → Dt) (h : α → Option Dt) : ∀ (xs : List α), (∀ x ∈ xs, q (u x) = pr (h x)) → mapP q (xs.map u) = pr (xs.filterMap h)
  | [], _ => rfl
  | x :: xs, hs => by
    rw [List.map_cons]
    show pb (pnx (q (u x))) _ = _
    rw [hs x List.mem_cons_self, pnx_pr, pb_pr, mapP_eq u h xs fun y hy => hs y (List.mem_cons_of_mem _ hy), pb_pr]
    cases e : h x with
    | none => rw [List.filterMap_cons_none e]; rfl
    | some d => rw [List.filterMap_cons_some e]; rfl
theorem mapP_map {q : Dt → M τ (Option Dt)} (u : α → Dt) (h : α → Dt) (xs : List α) (hs : ∀ x ∈ xs, q (u x) = pr (some (h x))) : mapP q (xs.map u) = pr (xs.map h) := by
  rw [mapP_eq u (fun x => some (h x)) xs hs]
  congr 1
  induction xs with
  | nil => rfl
  | cons x xs ih => simp only [List.filterMap_cons, List.map_cons, ih fun y hy => hs y (List.mem_cons_of_mem _ hy)]
/-- by a value for each number of turns -/
theorem forP_inv {body : Dt → σ → M τ (Lp σ)} (u : α → Dt) (xs : List α) (v : Nat → σ) (h : ∀ (i : Nat) (hi : i < xs.length), body (u xs[i]) (v i) = pr (.go (v (i + 1)))) : forP body (xs.map u) (v 0) = pr (v xs.length) := by
  have go : ∀ (m i : Nat), m = xs.length - i → i ≤ xs.length → forP body ((xs.drop i).map u) (v i) = pr (v xs.length) := by
    intro m
    induction m with
    | zero =>
      intro i em hi
      have : i = xs.length := by omega
      subst this
      rw [List.drop_length]; rfl
    | succ m ih =>
      intro i em hi
      have hlt : i < xs.length := by omega
      rw [List.drop_eq_getElem_cons hlt, List.map_cons]
      show pb (body (u xs[i]) (v i)) _ = _
      rw [h i hlt, pb_pr]
      exact ih (i + 1) (by omega) hlt
  have := go xs.length 0 (by omega) (Nat.zero_le _)
  rwa [List.drop_zero] at this
theorem ofFn_pr {fn : Fn} {ds : List Dt} {d : Dt} (h : fn (ds.map .val) = .ok d (ds.map .val)) : ofFn fn ds = pr d := by
  funext t
  exact ofFn_ok h
end
theorem enO_t {ds : List Dt} : enO [.tuple ds] = some (enumD 0 ds) := (rfl)
theorem enO_l {ds : List Dt} : enO [.list ds] = some (enumD 0 ds) := (rfl)
theorem zO_tt {ds es : List Dt} : zO [.tuple ds, .tuple es] = some (zipD ds es) := (rfl)
theorem zO_ll {ds es : List Dt} : zO [.list ds, .list es] = some (zipD ds es) := (rfl)
theorem zO_tl {ds es : List Dt} : zO [.tuple ds, .list es] = some (zipD ds es) := (rfl)
theorem dEq_nn : dEq .none .none = some (.bool true) := (rfl)
theorem lay_all {k : Nat} : ∀ {ds : List Dt}, (∀ d ∈ ds, d.canLay0 = true ∧ d.depth ≤ k) → PyData.canLayAll0 ds = true ∧ PyData.depthAll ds ≤ k
  | [], _ => by simp [PyData.canLayAll0, PyData.depthAll]
  | d :: ds, h => by
    have h1 := h d List.mem_cons_self
    have h2 := lay_all (ds := ds) fun e he => h e (List.mem_cons_of_mem _ he)
    simp only [PyData.canLayAll0, PyData.depthAll, h1.1, h2.1, Bool.and_self, true_and]
    omega
theorem lay_int (i : Int) : (PyData.int i).canLay0 = true ∧ (PyData.int i).depth ≤ 0 := by simp [PyData.canLay0, PyData.depth]
theorem lay_tup {k : Nat} {ds : List Dt} (h : ∀ d ∈ ds, d.canLay0 = true ∧ d.depth ≤ k) : (PyData.tuple ds).canLay0 = true ∧ (PyData.tuple ds).depth ≤ k + 1 := by
  have := lay_all h
  simp only [PyData.canLay0, PyData.depth, this.1, true_and]
  omega
theorem lay_lst {k : Nat} {ds : List Dt} (h : ∀ d ∈ ds, d.canLay0 = true ∧ d.depth ≤ k) : (PyData.list ds).canLay0 = true ∧ (PyData.list ds).depth ≤ k + 1 := by
  have := lay_all h
  simp only [PyData.canLay0, PyData.depth, this.1, true_and]
  omega
theorem lay_sh {k : Nat} {d : Dt} (h : d.canLay0 = true ∧ d.depth ≤ k) (hk : k ≤ 64) : SeqAt.shaped d = true := by
  unfold SeqAt.shaped
  rw [h.1, decide_eq_true (show d.depth ≤ 64 by omega)]; rfl
theorem lay_tI (xs : List Int) : (PyData.tuple (xs.map .int)).canLay0 = true ∧ (PyData.tuple (xs.map .int)).depth ≤ 1 := lay_tup fun d hd => by
  obtain ⟨x, _, rfl⟩ := List.mem_map.mp hd
  exact lay_int x
theorem lay_li (xs : List Int) : (PyData.list (xs.map .int)).canLay0 = true ∧ (PyData.list (xs.map .int)).depth ≤ 1 := lay_lst fun d hd => by
  obtain ⟨x, _, rfl⟩ := List.mem_map.mp hd
  exact lay_int x
/-- things told apart by their data -/
theorem eqv_map {α : Type} [DecidableEq α] {u : α → Dt} (h : ∀ x y, PyData.eqv (u x) (u y) = decide (x = y)) : ∀ xs ys : List α, PyData.eqvAll (xs.map u) (ys.map u) = decide (xs = ys)
  | [], [] => by simp [PyData.eqvAll]
  | [], y :: ys => by simp [PyData.eqvAll]
  | x :: xs, [] => by simp [PyData.eqvAll]
  | x :: xs, y :: ys => by
    have ih := eqv_map h xs ys
    simp only [List.map_cons, PyData.eqvAll, ih, h]
    by_cases e : x = y
    · subst e; simp
    · simp [e]
theorem eqv_int (x y : Int) : PyData.eqv (.int x) (.int y) = decide (x = y) := by
  simp only [PyData.eqv]; by_cases e : x = y <;> simp [e]
theorem eqv_ints (xs ys : List Int) : PyData.eqvAll (xs.map .int) (ys.map .int) = decide (xs = ys) := eqv_map eqv_int xs ys
theorem eqv_tI (xs ys : List Int) : PyData.eqv (.tuple (xs.map .int)) (.tuple (ys.map .int)) = decide (xs = ys) := by simp only [PyData.eqv]; exact eqv_ints xs ys
theorem eqv_iL (xs ys : List Int) : PyData.eqv (.list (xs.map .int)) (.list (ys.map .int)) = decide (xs = ys) := by simp only [PyData.eqv]; exact eqv_ints xs ys
theorem dEq_sh {d e : Dt} {b : Bool} (h1 : SeqAt.shaped d = true) (h2 : SeqAt.shaped e = true) (h : PyData.eqv d e = b) : dEq d e = some (.bool b) ∧ dNe d e = some (.bool (!b)) := by
  unfold dEq dNe
  rw [h1, h2, h]; exact ⟨rfl, rfl⟩
theorem dEq_tI (xs ys : List Int) : dEq (.tuple (xs.map .int)) (.tuple (ys.map .int)) = some (.bool (decide (xs = ys))) ∧ dNe (.tuple (xs.map .int)) (.tuple (ys.map .int)) = some (.bool (!decide (xs = ys))) := dEq_sh (lay_sh (lay_tI xs) (by omega)) (lay_sh (lay_tI ys) (by omega)) (eqv_tI xs ys)
theorem dEq_iL (xs ys : List Int) : dEq (.list (xs.map .int)) (.list (ys.map .int)) = some (.bool (decide (xs = ys))) ∧ dNe (.list (xs.map .int)) (.list (ys.map .int)) = some (.bool (!decide (xs = ys))) := dEq_sh (lay_sh (lay_li xs) (by omega)) (lay_sh (lay_li ys) (by omega)) (eqv_iL xs ys)
theorem dEq_id {i j : Int} : dEq (.int i) (.int j) = some (.bool (decide (i = j))) := by rw [dEq_ii]; congr 2
theorem dNe_id {i j : Int} : dNe (.int i) (.int j) = some (.bool (!decide (i = j))) := by rw [dNe_ii]; congr 2
theorem dEq_ln : dEq (.list []) (.list []) = some (.bool true) := (dEq_iL [] []).1
theorem dNe_ln : dNe (.list []) (.list []) = some (.bool false) := (dEq_iL [] []).2
theorem dEq_lt : dEq (.tuple []) (.tuple []) = some (.bool true) := (dEq_tI [] []).1
theorem dNe_lt : dNe (.tuple []) (.tuple []) = some (.bool false) := (dEq_tI [] []).2
theorem dAdd_tt {xs ys : List Dt} (h : xs.length + ys.length ≤ 60000) : dAdd (.tuple xs) (.tuple ys) = some (.tuple (xs ++ ys)) := if_pos (Nat.le_of_lt (small_lt h))
theorem dAdd_ll {xs ys : List Dt} (h : xs.length + ys.length ≤ 60000) : dAdd (.list xs) (.list ys) = some (.list (xs ++ ys)) := if_pos (Nat.le_of_lt (small_lt h))
section
variable {τ : Type}
end
end DN

namespace DN
open PySem PySem.Spec L2
section
variable {K : PySem.W.Frag}
end
section
variable {ι : Type} {Xs : ι → Cx} {P : Program} {w : World} {K : PySem.W.Frag} {mg : Str → Option Value} {base : Heap} {N : List Str} {k : Nat} {Wx : WX} {EI : EIx}
variable {e : Expr} {p pos : Pos} {es : List Expr} {fa : Mo (List Dt)}
end
end DN

namespace DN
open PySem PySem.Spec L2
section
variable {ι : Type} {Xs : ι → Cx} {P : Program} {w : World} {K : PySem.W.Frag} {mg : Str → Option Value} {base : Heap} {N : List Str} {k : Nat} {Wx : WX} {EI : EIx}
variable {b : Expr} {g : Mo Dt} {pos : Pos} {es : List Expr} {x : Str}
end
end DN

namespace DN
open PySem PySem.Spec L2
section
variable {τ κ : Type} {X : τ → Rh → Prop} {Γ Γ1 : τ → List Sp} {O : κ → τ → Fl → Rh → Prop} {f : Mo Dt} {cf : M τ Dt} {v : Mo Fl}
end
end DN

namespace DN
open PySem PySem.Spec L2
section
variable {ι : Type} {Xs : ι → Cx} {P : Program} {w : World} {K : PySem.W.Frag} {mg : Str → Option Value} {base : Heap} {N : List Str} {k : Nat} {Wx : WX} {EI : EIx}
variable {a : Expr} {f : Mo Dt} {pos : Pos} {x : Str}
end
end DN

namespace DN
open PySem PySem.Spec L2
section
variable {τ κ : Type} {X : τ → Rh → Prop} {Γ Γ1 : τ → List Sp} {O : κ → τ → Fl → Rh → Prop} {f : Mo Dt} {cf : M τ Dt} {v : Mo Fl}
def ppop (ds : List Dt) : M τ (List Dt) := match ds with
  | [] => pz
  | d :: r => pr (d :: r).dropLast
def prevL (cf : M τ Dt) : M τ (List Dt) := pb cf fun d => pL d fun xs => pr xs.reverse
end
end DN

namespace DN
open PySem PySem.Spec L2
section
variable {ι : Type} {Xs : ι → Cx} {P : Program} {w : World} {K : PySem.W.Frag} {mg : Str → Option Value} {base : Heap} {N : List Str} {k : Nat} {Wx : WX} {EI : EIx}
variable {a b c : Expr} {pos : Pos} {x y z : Str}
/-- x.extend(e) -/
def extM (i : Nat) (f : Mo Dt) : Mo Fl := fun ρ0 => match getO i ρ0 with
  | some (.lst _) => bnd f (fun d => fun ρ => match getO i ρ, d with
    | some (.lst ds), .list es => if ds.length + es.length ≤ sizeLine then .ok .nx (putR i (.lst (ds ++ es)) ρ) else .stuck
    | _, _ => .stuck) ρ0
  | _ => .stuck
theorem fs_ext {f : Mo Dt} (G : Good Xs P w K mg base N k Wx) (i : Nat) {p0 ap cp : Pos} (ha : FE Xs K EI Wx a f) (hN : N[i]? = some x := by rfl) (hv : ∀ j, Vis (Xs j).env.scope x := by intro _; first | exact Or.inl rfl | exact Or.inr (Or.inl rfl) | exact Or.inr (Or.inr rfl))
    (h1 : (x == ("__debug__" : Str)) = false := by decide) (h2 : (x == ("__classdict__" : Str)) = false := by decide)
    (hbase : ∀ j, attributeBase (.Name x p0) "extend" (Xs j).env (eval (.Name x p0) (Xs j).env) = eval (.Name x p0) (Xs j).env := by intro _; rfl)
    (hfew : ∀ j, ((backTo cp (starEach [a] (Xs j).env)).all (fun x => !x.1) && (backToKw cp (keywordEach [] (Xs j).env)).all (fun x => x.1.isSome)
      && decide (([a] : List Expr).length + ([] : List Keyword).length + (if ([] : List Keyword).isEmpty then 0 else 1) < 30)) = true := by intro _; rfl)
    (hline : (ap.endLine == cp.line) = true := by rfl) (hs : ∀ j, starEach [a] (Xs j).env = (false, eval a (Xs j).env) :: starEach [] (Xs j).env := by intro _; rfl)
    (hsw : ∀ j, swapsWith (.Call (.Attribute (.Name x p0) "extend" ap) [a] [] cp) none pos.line (Xs j).env = pure false := by intro _; rfl) : FS Xs K EI Wx (.Expr (.Call (.Attribute (.Name x p0) "extend" ap) [a] [] cp) pos) (extM i f) := by
  obtain ⟨t, pa, qa⟩ := ha
  refine ⟨tDrop (tBM K "list" rExtend (tVar i) (tCons t tNil)), fun j => ?_, fun B F H ρ σ D R z => ?_⟩
  · have z := pe_bm (X := Xs j) (apos := ap) (cpos := cp) PySem.F.plainAttrs_list PySem.F.slot_list_extend PySem.F.type_list_extend mt_extend (pe_var (i := i) (pos := p0) (by rw [G.hN j]; exact hN) (hv j) h1 h2) (pa_cons (pa j) pa_nil (hs j)) (hbase j) (hfew j) hline (hs j) rfl
    rw [G.hK j] at z
    exact ps_expr z (hsw j)
  · unfold extM at z
    cases e0 : getO i ρ with
    | none => rw [e0] at z; exact z.elim
    | some o0 =>
      rw [e0] at z
      obtain ⟨adr, sa, ⟨ho0, k0, kr⟩, _⟩ := R.own i o0 (getO_own e0)
      cases o0 with
      | dk _ => exact z.elim
      | dt _ => exact z.elim
      | lst ds0 =>
        obtain ⟨vs0, eh, _⟩ := kr
        subst eh
        refine ⟨.ref adr, sa, .inl ⟨rfl, _, .inl (.inl k0)⟩, ?_⟩
        refine qa B F H ρ σ [] _ R (z.bnd fun d ρ1 F1 H1 R1 S1 y1 v dv => ?_)
        cases eo : getO i ρ1 with
        | none => rw [eo] at y1; exact y1.elim
        | some o =>
          rw [eo] at y1
          obtain ⟨adr', s', ⟨ho, k1, k2⟩, _⟩ := R1.own i o (getO_own eo)
          rw [sa] at s'
          cases s'
          cases o with
          | dk _ => exact y1.elim
          | dt _ => exact y1.elim
          | lst ds =>
            cases d <;> first | exact y1.elim | skip
            rename_i es
            cases dv with
            | lst g1 g2 =>
              by_cases hl : ds.length + es.length ≤ sizeLine
              · try dsimp only at y1
                rw [if_pos hl] at y1
                obtain ⟨vs, eo2, k3⟩ := k2
                subst eo2
                obtain ⟨q, eq, hq⟩ := putR_cases (o' := .lst (ds ++ es)) eo
                rw [eq] at y1
                refine ⟨adr, _, vs, _, rfl, rfl, k1, R1.fro _ _ g1, by rw [dfAll_len k3, dfAll_len g2]; exact hl, ?_⟩
                exact y1 σ F1 _ (R1.write (getO_own eo) sa (ObRel.lst (dfAll_app k3 g2)) hq) (Same.refl _)
              · try dsimp only at y1
                rw [if_neg hl] at y1
                exact y1.elim
end
end DN

namespace DN
open PySem PySem.Spec L2
section
variable {τ κ α β γ : Type} {X : τ → Rh → Prop} {Γ Γ1 Γ2 Γ3 : τ → List Sp} {O : κ → τ → Fl → Rh → Prop} {f : Mo Dt} {cf : M τ Dt} {v : Mo Fl}
def pext (ds : List Dt) (d : Dt) : M τ (List Dt) := pL d fun es => pif (decide (ds.length + es.length ≤ sizeLine)) (pr (ds ++ es)) pz
theorem s_ext {i : Nat} {ds : List Dt} {k : List Dt → M τ κ} (h0 : ∀ t, (Γ t)[i]? = some (.own (.lst ds))) (hf : EJ X Γ f cf Γ1) (h1 : ∀ t, (Γ1 t)[i]? = some (.own (.lst ds))) (hk : ∀ d, SJ X (fun t => (Γ1 t).set i (.own (.lst d))) v (k d) O) : SJ X Γ (seqM (extM i f) v) (pb cf fun d => pb (pext ds d) k) O := fun t ρ hm => by
  rw [seqM_ap]
  unfold extM
  rw [(own_get hm (h0 t)).1]
  dsimp only
  rw [bnd_ap, bind_seq]
  refine tri_bind (hf t ρ hm) fun a t' b ρ' pp => ?_
  obtain ⟨rfl, q⟩ := pp
  obtain ⟨g1, g2⟩ := own_get q (h1 t')
  rw [g1]
  cases b <;> first | trivial | skip
  rename_i es
  dsimp only
  show Tri (pb (pif (decide (ds.length + es.length ≤ sizeLine)) (pr (ds ++ es)) pz) k t') _ _ _
  by_cases z : ds.length + es.length ≤ sizeLine
  · rw [decide_eq_true z, if_pos z, seq_nx]
    exact hk _ t' _ (g2 _)
  · rw [decide_eq_false z]
    trivial
end
end DN

namespace DN
open PySem PySem.Spec PySem.W PyProof.Rows

section
variable {prog : Program} {w : World} {A : Around} {E : Value → Shared → Prop} {s : Shared} {env : Env}

end

/-- what the classes' texts say: C the class, fI its __init__, cc the cell that holds it -/
structure SupC (K : Frag) (C fI cc : Addr) (qual : Str) : Prop where
  cls : ∃ nm q N bs bm sn sub ab col dd k0 k1 k2 k3 k5, K.lookup C = some (excClassObj nm q C N bs bm true sn sub ab col dd k0 k1 k2 k3 k5 "ValueError.__new__") ∧ PySem.HandSPX.refsVE bm = true
  cell : ∃ cl cld csl, K.lookup cc = some ⟨cl, cld, .cell (some (.ref C)), csl⟩
  nxt : ks_superIn K C C "__init__" = some (some (.builtin "ValueError.__init__"))
  sub : subIn K (.ref C) (.type "ValueError") = some true
  mro : mroIn K C (.ref C) = some true
  opq : nsIn K cStatics "thirdparty.any" = some none

section
variable {prog : Program} {w : World} {A : Around} {E : Value → Shared → Prop} {hp : Heap} {g : Array GenState} {d : Drawn} {t : Nat} {os : OsState}
variable {K : Frag} {C fI cc cda L e t0 : Addr} {qual : Str} {base : Heap} {mg : Str → Option Value} {scope : Scope} {m : Str → Option Value}

/-- the part of the program that stands before all calls -/
structure Gb (prog : Program) (K : Frag) (mg : Str → Option Value) (h : Heap) : Prop where
  kin : K.In h
  glob : h.Ns mainGlobals mg
  blt : ∃ mb, h.Ns builtinsNs mb ∧ ∀ x : Str, x ≠ "__name__" → mb x = bootBuiltins x
  sup : mg "super" = none
  top : (prog.main.scope.names.lookup ("super" : Str)).isSome = false
theorem Gb.keeps {h h' : Heap} (G : Gb prog K mg h) (k : ∀ b o, h.get? b = some o → h'.get? b = some o) : Gb prog K mg h' := by
  obtain ⟨mb, h1, h2⟩ := G.blt
  exact ⟨G.kin.keeps k, G.glob.keeps k, ⟨mb, h1.keeps k, h2⟩, G.sup, G.top⟩

/-- what is said of the __init__ itself -/
structure IniF (prog : Program) (K : Frag) (fI cda : Addr) (scope : Scope) (sf : Str) : Prop where
  fn : ∃ oc od fd osl ar, K.lookup fI = some ⟨oc, od, .func fd, osl⟩ ∧ (fd.params.posonlyargs ++ fd.params.args).head? = some ar ∧ ar.arg = sf
  code : ∃ ccl cdd vs ccs file tf, K.lookup cda = some ⟨ccl, cdd, .fields vs, ccs⟩ ∧ vs[2]? = some (.str file tf) ∧ ((prog.main.file : Str) == file) = true
  kS : scope.names.lookup ("super" : Str) = some .globalImplicit
  kC : scope.names.lookup ("__class__" : Str) = some .free
  kA : scope.names.lookup sf = some .local
  kind : scope.kind = .function

/-- what the class says of its fields -/
structure FldC (K : Frag) (C : Addr) (f : Str) : Prop where
  sa : findIn K (.ref C) "__setattr__" = some (some (.builtin "object.__setattr__"))
  no : findIn K (.ref C) f = some none
end
end DN

namespace DN
open PySem PySem.Spec PySem.W PyProof.Rows
open L2 (defArgs defBody defScope)

/-- the fields of an exception, the last one first -/
def mF : List (Str × Value) → Str → Option Value
  | [] => fun _ => none
  | (f, u) :: r => fun y => if y = f then some u else mF r y

/-- the text of an __init__ with the fields fs: super().__init__(text), self.f = f for each -/
inductive IniT : List Str → List Stmt → Prop where
  | one {f1 m1 : Str} {j1 : Nat} {p0 p1 p2 p8 p9 q1 q2 q3 q7 r1 r2 r3 r4 : Pos} (hq : p2.endLine = p8.line) (z1 : m1.length ≤ 1000) :
    IniT [f1] [.Expr (.Call (.Attribute (.Call (.Name "super" p0) [] [] p1) "__init__" p2) [.JoinedStr [.Constant (.str m1) j1 q1, .FormattedValue (.Name f1 q2) (-1) none q3] q7] [] p8) p9,
      .Assign [.Attribute (.Name "self" r1) f1 r2] (.Name f1 r3) r4]
  | two {f1 m1 f2 m2 : Str} {j1 j2 : Nat} {p0 p1 p2 p8 p9 q1 q2 q3 q4 q5 q6 q7 r1 r2 r3 r4 r5 r6 r7 r8 : Pos} (hq : p2.endLine = p8.line) (z1 : m1.length ≤ 1000) (z2 : m2.length ≤ 1000) :
    IniT [f1, f2] [.Expr (.Call (.Attribute (.Call (.Name "super" p0) [] [] p1) "__init__" p2) [.JoinedStr [.Constant (.str m1) j1 q1, .FormattedValue (.Name f1 q2) (-1) none q3, .Constant (.str m2) j2 q4, .FormattedValue (.Name f2 q5) (-1) none q6] q7] [] p8) p9,
      .Assign [.Attribute (.Name "self" r1) f1 r2] (.Name f1 r3) r4, .Assign [.Attribute (.Name "self" r5) f2 r6] (.Name f2 r7) r8]

/-- all that is said of a class with fields -/
structure ClF (prog : Program) (K : Frag) (mg : Str → Option Value) (x : Str) (fs : List Str) (C : Addr) : Prop where
  gC : mg x = some (.ref C)
  kC : keepIn K (.ref C) = true
  exC : subIn K (.ref C) (.type "BaseException") = some true
  tyC : typeIn K (.ref C) = some (.type "type")
  ex : ∃ (fI cc cda : Addr) (st : Stmt) (nm qual : Str) (dV kV doc pm ct oc : Value) (an od : Option Addr) (osl : Array (Option Value)),
    SupC K C fI cc qual ∧ (∀ f ∈ fs, FldC K C f) ∧ IniF prog K fI cda (defScope st) "self" ∧ IniT fs (defBody st) ∧
    K.lookup fI = some ⟨oc, od, .func (ksFn nm qual (defArgs st) (defBody st) (defScope st) dV kV doc pm an (.ref cda) ct cc), osl⟩ ∧ codeIn K (.ref cda) qual = true ∧
    findIn K (.ref C) "__init__" = some (some (.ref fI)) ∧ typeIn K (.ref fI) = some (.type "function") ∧
    (∀ us : List Value, us.length = fs.length + 1 → bindArgs (ksFn nm qual (defArgs st) (defBody st) (defScope st) dV kV doc pm an (.ref cda) ct cc) ⟨us, []⟩ = pure ((("self" : Str) :: fs).zip us)) ∧
    (∀ y ∈ ("self" : Str) :: fs, (defScope st).names.lookup y = some .local ∧ (y == ("__debug__" : Str)) = false) ∧ (("self" : Str) :: fs).Nodup ∧
    (∀ z ∈ (defScope st).names, z.2 ≠ .cell) ∧ (defScope st).isCoroutine = false ∧ (defScope st).isGenerator = false

section
variable {prog : Program} {w : World} {A : Around} {E : Value → Shared → Prop} {hp : Heap} {g : Array GenState} {d : Drawn} {t : Nat} {os : OsState}
variable {K : Frag} {C : Addr} {mg : Str → Option Value} {x : Str} {fs : List Str}
end
end DN

namespace DN
open PySem PySem.Spec L2

/-- None or an int that is not great -/
def fvV (v : V) : Prop := v = .non ∨ ∃ i : Int, v = .int i ∧ i.natAbs.log2 < 1920
/-- fields as values of the model and as the reading's -/
inductive FR : List (Str × V) → List (Str × Value) → Prop where
  | nil : FR [] []
  | cons {f : Str} {v : V} {u : Value} {a : List (Str × V)} {b : List (Str × Value)} (r : RelV v u) (h : FR a b) : FR ((f, v) :: a) ((f, u) :: b)
theorem FR.zip : ∀ {fs : List Str} {vs : List V} {us : List Value}, Vals vs us → FR (fs.zip vs) (fs.zip us)
  | [], _, _, _ => by simpa using FR.nil
  | f :: fs, _, _, .nil => by simpa using FR.nil
  | f :: fs, _, _, .cons r h => .cons r (FR.zip h)
theorem FR.rel {a : List (Str × V)} {b : List (Str × Value)} (h : FR a b) : ∀ f, RelO (a.lookup f) (mF b f) := by
  induction h with
  | nil => exact fun _ => trivial
  | cons r _ ih => exact fun f => relO_put r ih f

section
variable {X : Cx} {x : Str} {fs : List Str} {C : Addr} {e : Expr} {es : List Expr} {t : TA} {p pos : Pos} {k : Nat}
end
end DN

namespace DN
open PySem PySem.Spec L2

/-- a field's data as a value: None or an int that is not great -/
def fvD : Dt → Bool
  | .none => true
  | .int i => decide (-(2 ^ 63) ≤ i) && decide (i < 2 ^ 63)
  | _ => false
/-- the program's exceptions: each is the base's child -/
def exSub (a b : Str) : Bool := a == b || b == ("LotError" : Str) || b == ("ValueError" : Str)
/-- the fields in a heap -/
inductive FD : List (Str × V) → List (Str × Dt) → Prop where
  | nil : FD [] []
  | cons {f : Str} {v : V} {d : Dt} {a : List (Str × V)} {b : List (Str × Dt)} (r : ∀ (K : PySem.W.Frag) (F : Hp), Df K F v d) (h : FD a b) : FD ((f, v) :: a) ((f, d) :: b)
def exH (fl : List (Str × Dt)) (dd : Option Addr) (H : Hp) : Prop := (fl = [] ∧ dd = none) ∨ ∃ d fs, dd = some d ∧ H d = some (.xd fs) ∧ FD fs fl
def eiK (Tab : List (Str × Addr)) : EIx := fun x c dd H => ∃ C, (x.cls, C) ∈ Tab ∧ c = .ref C ∧ exH x.flds dd H

structure XTab (K : PySem.W.Frag) (mg : Str → Option Value) (Tab : List (Str × Addr)) : Prop where
  gl : ∀ p ∈ Tab, mg p.1 = some (.ref p.2)
  ok : ∀ p ∈ Tab, ExcC K p.2 ∧ XfC K p.2
  ex : ∀ p ∈ Tab, ∀ q ∈ Tab, PySem.W.exmOne K (.ref p.2) (.ref q.2) = some (exSub p.1 q.1)
  is : ∀ p ∈ Tab, ∀ q ∈ Tab, PySem.W.kitOne K (.ref p.2) (.ref q.2) = some (exSub p.1 q.1)
  ve : ∀ p ∈ Tab, PySem.W.kitOne K (.ref p.2) (.type "ValueError") = some true

theorem fvD_v {K : PySem.W.Frag} {F : Hp} {v : V} {d : Dt} (h : Df K F v d) (hf : fvD d = true) : fvV v ∧ ∀ (K : PySem.W.Frag) (F : Hp), Df K F v d := by
  cases h with
  | non => exact ⟨.inl rfl, fun _ _ => .non⟩
  | int i =>
    refine ⟨.inr ⟨i, rfl, ?_⟩, fun _ _ => .int i⟩
    simp only [fvD, Bool.and_eq_true, decide_eq_true_eq] at hf
    by_cases h0 : i.natAbs = 0
    · rw [h0]; decide
    · refine (Nat.log2_lt h0).mpr ?_
      have h1 : i.natAbs ≤ 2 ^ 63 := by omega
      exact Nat.lt_of_le_of_lt h1 (Nat.pow_lt_pow_right (by decide) (by decide))
  | bl _ => cases hf
  | str _ => cases hf
  | lst _ _ => cases hf
  | tup _ _ => cases hf
  | dkt _ _ _ => cases hf
  | dkk _ _ _ => cases hf
  | frl _ _ => cases hf
theorem FD.zip {K : PySem.W.Frag} {F : Hp} : ∀ {fs : List Str} {vs : List V} {ds : List Dt}, DfAll K F vs ds → ds.all fvD = true → FD (fs.zip vs) (fs.zip ds)
  | [], _, _, _, _ => by simpa using FD.nil
  | f :: fs, _, _, .nil, _ => by simpa using FD.nil
  | f :: fs, _, _, .cons r h, hv => by
    rw [List.all_cons, Bool.and_eq_true] at hv
    exact .cons (fvD_v r hv.1).2 (FD.zip h hv.2)
section
variable {K : PySem.W.Frag} {B : Bs} {F H : Hp} {ρ : Rh} {σ : St} {T : List (Ob × Addr)}
end

def raiseM (cls : Str) (fs : List Str) (fa : Mo (List Dt)) : Mo Fl := bnd fa fun ds => fun ρ => if decide (ds.length = fs.length) && ds.all fvD then .exn ⟨cls, (fs.zip ds).reverse⟩ ρ else .stuck
def raiseT (cls : Str) : Mo Fl := fun ρ => .exn ⟨cls, []⟩ ρ
section
variable {ι : Type} {Xs : ι → Cx} {P : Program} {w : World} {K : PySem.W.Frag} {mg : Str → Option Value} {base : Heap} {N : List Str} {k : Nat} {Wx : WX} {Tab : List (Str × Addr)}
variable {e : Expr} {es : List Expr} {p pos pos' p2 : Pos} {fa : Mo (List Dt)} {x m : Str} {j : Nat} {fs : List Str}
/-- what is said of a class with fields, and that it stands in the table -/
structure ClX (P : Program) (K : PySem.W.Frag) (mg : Str → Option Value) (Tab : List (Str × Addr)) (x : Str) (fs : List Str) : Prop where
  ex : ∃ C, ClF P K mg x fs C ∧ (x, C) ∈ Tab
  sup : mg "super" = none
  top : (P.main.scope.names.lookup ("super" : Str)).isSome = false
/-- .. of one without -/
structure ClT (K : PySem.W.Frag) (mg : Str → Option Value) (Tab : List (Str × Addr)) (x : Str) : Prop where
  ex : ∃ C, mg x = some (.ref C) ∧ PySem.W.excIn K C [.type "ValueError", .type "Exception", .type "BaseException", .type "object"] "ValueError.__new__" = true ∧ PySem.W.keepIn K (.ref C) = true ∧ PySem.W.subIn K (.ref C) (.type "BaseException") = some true ∧ PySem.W.typeIn K (.ref C) = some (.type "type") ∧ (x, C) ∈ Tab
theorem fs_raiseT (G : Good Xs P w K mg base N k Wx) (tk : ∀ i, Takes (Xs i) Wx) (D : ClT K mg Tab x) (hg : ∀ i, Gl (Xs i) x := by intro _; rfl) (hdb : (x == ("__debug__" : Str)) = false := by decide) :
    FS Xs K (eiK Tab) Wx (.Raise (some (.Call (.Name x p) [.Constant (.str m) j p2] [] pos)) none pos') (raiseT x) := by
  obtain ⟨C, gC, q, kC, sB, tT, hm⟩ := D.ex
  refine ⟨fun _ σ H => Wx (.ref C) none σ H, fun i => ps_raise (G.calm i) (tk i) (pmk_own PySem.F.excBase_ValueError (by rw [G.hK i]; exact q) (by rw [G.hm i]; exact gC) (by rw [G.hK i]; exact kC) (raises_own (by rw [G.hK i]; exact sB) (by rw [G.hK i]; exact tT)) (hg i) hdb), fun B F H ρ σ Dd R z => ?_⟩
  exact z _ _ _ F H R (Same.refl _) ⟨C, hm, rfl, .inl ⟨rfl, rfl⟩⟩
end
end DN

namespace DN
open PySem PySem.Spec PyProof.Rows L2

/-- a suite's reading: the exception's place, class, dict -/
abbrev SuR := Addr → Value → Option Addr → TS
/-- a suite that keeps its reading, wherever the exception lies -/
def SuOk (X : Cx) (sts : List Stmt) (r : SuR) : Prop := ∀ (a : Addr) (ob : Obj) (cl : Value) (dd : Option Addr) (ps : List (Addr × Obj)), Zc cl dd ob → (∃ us, ob.data = .fields us) → PSs (X.suite a ((a, ob) :: ps)) sts (r a cl dd)
inductive HsOk (X : Cx) : List ExceptHandler → List (Value × Option Nat × SuR) → Prop
  | nil : HsOk X [] []
  | bare {x : Str} {c : Value} {r : SuR} {st : Stmt} {sts : List Stmt} {n1 n2 : Pos} {hs : List ExceptHandler} {l : List (Value × Option Nat × SuR)} (hc : Names X x c) (hr : SuOk X (st :: sts) r) (hl : HsOk X hs l) : HsOk X (.ExceptHandler (some (.Name x n1)) none (st :: sts) n2 :: hs) ((c, none, r) :: l)
  | named {x n : Str} {i : Nat} {c : Value} {r : SuR} {st : Stmt} {sts : List Stmt} {n1 n2 : Pos} {hs : List ExceptHandler} {l : List (Value × Option Nat × SuR)} (hc : Names X x c) (hi : X.N[i]? = some n) (hn : X.env.kindOf n = some .local) (hr : SuOk X (st :: sts) r) (hl : HsOk X hs l) :
    HsOk X (.ExceptHandler (some (.Name x n1)) (some n) (st :: sts) n2 :: hs) ((c, some i, r) :: l)

section
variable {X : Cx} {body : List Stmt} {h0 : ExceptHandler} {hs : List ExceptHandler} {l : List (Value × Option Nat × SuR)} {pos : Pos} {tb : WX → TS} {Wo : WX}
end
end DN

namespace DN
open PySem PySem.Spec L2

def ExAt (Tab : List (Str × Addr)) (F : Hp) (x : Exn) (cl : Value) (dd : Option Addr) : Prop := ∃ C, (x.cls, C) ∈ Tab ∧ cl = .ref C ∧ exH x.flds dd F
theorem exH_mono {fl : List (Str × Dt)} {dd : Option Addr} {F F' : Hp} (h : exH fl dd F) (S : Same F F') : exH fl dd F' := by
  rcases h with h | ⟨d, fs, e, h1, h2⟩
  · exact .inl h
  · exact .inr ⟨d, fs, e, S _ _ h1, h2⟩
theorem ExAt.mono {Tab : List (Str × Addr)} {F F' : Hp} {x : Exn} {cl : Value} {dd : Option Addr} (h : ExAt Tab F x cl dd) (S : Same F F') : ExAt Tab F' x cl dd := by
  obtain ⟨C, h1, h2, h3⟩ := h
  exact ⟨C, h1, h2, exH_mono h3 S⟩
theorem FD.get {a : List (Str × V)} {b : List (Str × Dt)} (h : FD a b) {f : Str} {d : Dt} (e : b.lookup f = some d) : ∃ v, a.lookup f = some v ∧ ∀ (K : PySem.W.Frag) (F : Hp), Df K F v d := by
  induction h with
  | nil => cases e
  | @cons g v d' a b r h ih =>
    by_cases z : f = g
    · subst z
      rw [List.lookup_cons_self] at e ⊢
      cases e
      exact ⟨v, rfl, r⟩
    · have q : (f == g) = false := by simpa using z
      rw [List.lookup_cons, q] at e ⊢
      exact ih e

abbrev UD := Exn → Rh → Option Dt
abbrev UL := Exn → Rh → Option (List Dt)
abbrev UB := Exn → Rh → Option Bool
def uC (d : Dt) : UD := fun _ _ => some d
def uNil : UL := fun _ _ => some []
def uCons (g : UD) (ga : UL) : UL := fun x ρ => (g x ρ).bind fun d => (ga x ρ).map fun ds => d :: ds
def uTup (ga : UL) : UD := fun x ρ => (ga x ρ).bind fun ds => if ds.length ≤ sizeLine then some (.tuple ds) else none
def uIte (p : UB) (g g' : UD) : UD := fun x ρ => (p x ρ).bind fun q => if q = true then g x ρ else g' x ρ
def uAnd (p q : UB) : UB := fun x ρ => (p x ρ).bind fun c => if c = true then q x ρ else some false
def uIs (y : Str) : UD := fun x _ => some (.bool (exSub x.cls y))
def uTru (g : UD) : UB := fun x ρ => match g x ρ with
  | some (.bool b) => some b
  | _ => none
def uFld (c f : Str) : UD := fun x _ => if x.cls = c then x.flds.lookup f else none
section
variable {ι : Type} {Xs : ι → Cx} {P : Program} {w : World} {K : PySem.W.Frag} {mg : Str → Option Value} {base : Heap} {N : List Str} {k : Nat} {Wx : WX} {Tab : List (Str × Addr)}

/-- a suite's judgement: o is the slot of the exception's name -/
def FU (Xs : ι → Cx) (K : PySem.W.Frag) (Tab : List (Str × Addr)) (sts : List Stmt) (o : Option Nat) (f : Exn → Mo Fl) : Prop := ∃ r : SuR, (∀ i, SuOk (Xs i) sts r) ∧
  ∀ (x : Exn) (a : Addr) (cl : Value) (dd : Option Addr) (B : Bs) (F H : Hp) (ρ : Rh) (σ : St) (D : Ends), Rel K B F H ρ σ [] → ExAt Tab F x cl dd → (∀ i, o = some i → σ[i]? = some (some (.ref a))) → PostS K (eiK Tab) W0 B F D (f x ρ) → r a cl dd D σ H

variable {i : Nat} {a b c e : Expr} {es rest : List Expr} {g g' : UD} {ga : UL} {p q : UB} {pos p0 p1 pos' : Pos} {n y : Str}
def suR (g : UD) : Exn → Mo Fl := fun x ρ => match g x ρ with
  | some d => .ok (.rt d) ρ
  | none => .stuck
inductive FH (Xs : ι → Cx) (K : PySem.W.Frag) (Tab : List (Str × Addr)) (N : List Str) : List ExceptHandler → List (Str × Option Nat × (Exn → Mo Fl)) → Prop
  | nil : FH Xs K Tab N [] []
  | bare {x : Str} {C : Addr} {f : Exn → Mo Fl} {st : Stmt} {sts : List Stmt} {n1 n2 : Pos} {hs : List ExceptHandler} {l : List (Str × Option Nat × (Exn → Mo Fl))} (hC : (x, C) ∈ Tab) (hc : ∀ j, Gl (Xs j) x) (hd : (x == ("__debug__" : Str)) = false) (hf : FU Xs K Tab (st :: sts) none f) (hl : FH Xs K Tab N hs l) :
    FH Xs K Tab N (.ExceptHandler (some (.Name x n1)) none (st :: sts) n2 :: hs) ((x, none, f) :: l)
  | named {x n : Str} {i : Nat} {C : Addr} {f : Exn → Mo Fl} {st : Stmt} {sts : List Stmt} {n1 n2 : Pos} {hs : List ExceptHandler} {l : List (Str × Option Nat × (Exn → Mo Fl))} (hC : (x, C) ∈ Tab) (hc : ∀ j, Gl (Xs j) x) (hd : (x == ("__debug__" : Str)) = false) (hi : N[i]? = some n) (hn : ∀ j, (Xs j).env.kindOf n = some .local) (hf : FU Xs K Tab (st :: sts) (some i) f) (hl : FH Xs K Tab N hs l) :
    FH Xs K Tab N (.ExceptHandler (some (.Name x n1)) (some n) (st :: sts) n2 :: hs) ((x, some i, f) :: l)
/-- the context of a try's body -/
abbrev TrI (Xs : ι → Cx) (Wb : WX) := { q : ι × List (Addr × Obj) × (Value → Shared → Prop) // Takes ((Xs q.1).tr q.2.1 q.2.2) Wb ∧ PassesOwn (model (Xs q.1).prog (Xs q.1).w) (Xs q.1).A (Xs q.1).env q.2.2 }
abbrev trs (Xs : ι → Cx) (Wb : WX) : TrI Xs Wb → Cx := fun q => (Xs q.1.1).tr q.1.2.1 q.1.2.2
theorem Good.tr (G : Good Xs P w K mg base N k Wx) (Wb : WX) : Good (trs Xs Wb) P w K mg base N k Wb :=
  ⟨fun q => G.hp q.1.1, fun q => G.hw q.1.1, fun q => G.hK q.1.1, fun q => G.hm q.1.1, fun q => G.hb q.1.1, fun q => G.hN q.1.1, G.nd, fun q => G.calm q.1.1, fun q => G.room q.1.1, fun q σ => by
    have z := passAt (X := trs Xs Wb q) q.2.1 σ
    rw [show (trs Xs Wb q).prog = P from G.hp q.1.1, show (trs Xs Wb q).w = w from G.hw q.1.1] at z
    exact z⟩
end
end DN

namespace DN
open PySem PySem.Spec L2

section
variable {ι : Type} {Xs : ι → Cx} {P : Program} {w : World} {K : PySem.W.Frag} {mg : Str → Option Value} {base : Heap} {N : List Str} {k : Nat} {Wx : WX} {EI : EIx}
variable {a b c e ix : Expr} {f g h : Mo Dt} {p pos pos' : Pos} {es es0 : List Expr} {fa : Mo (List Dt)} {x : Str}
end
end DN

namespace DN
open PySem PySem.Spec L2

section
variable {ι : Type} {Xs : ι → Cx} {P : Program} {w : World} {K : PySem.W.Frag} {mg : Str → Option Value} {base : Heap} {N : List Str} {k : Nat} {Wx : WX} {Tab : List (Str × Addr)}
variable {i : Nat} {a b c e : Expr} {g g' : UD} {pos p0 p1 p2 cp ap : Pos} {n y : Str} {j0 : Nat}
end
end DN

namespace DN
open PySem PySem.Spec L2

theorem clt_mk {K : PySem.W.Frag} {h : Heap} {mg : Str → Option Value} (X : K.In h) (G : h.Ns mainGlobals mg) {x : Str} {Tab : List (Str × Addr)} {C : Addr} (a : PySem.W.nsIn K mainGlobals x = some (some (.ref C)))
    (z : (PySem.W.excIn K C [.type "ValueError", .type "Exception", .type "BaseException", .type "object"] "ValueError.__new__" && PySem.W.keepIn K (.ref C) && decide (PySem.W.subIn K (.ref C) (.type "BaseException") = some true) && decide (PySem.W.typeIn K (.ref C) = some (.type "type"))) = true) (m : (x, C) ∈ Tab) : ClT K mg Tab x := by
  simp only [Bool.and_eq_true, decide_eq_true_eq] at z
  obtain ⟨⟨⟨z1, z2⟩, z3⟩, z4⟩ := z
  exact ⟨C, PySem.W.mg_of X G a, z1, z2, z3, z4, m⟩
/-- the table, by reckoning -/
def excB (K : PySem.W.Frag) (D : Addr) : Bool := xfB K D && decide (PySem.W.findIn K (.ref D) "__class__" = some (some (.builtin "object.__class__"))) && decide (PySem.W.specialIn K (.builtin "object.__class__") "__get__" = some (some (.builtin "getset_descriptor.__get__"))) && decide (PySem.W.takesIn K (.builtin "object.__class__") = some true) && decide (PySem.W.mroIn K D (.type "object") = some true)
def xtB (K : PySem.W.Frag) (Tab : List (Str × Addr)) : Bool := Tab.all fun p => excB K p.2 && decide (PySem.W.kitOne K (.ref p.2) (.type "ValueError") = some true) && Tab.all fun q => decide (PySem.W.exmOne K (.ref p.2) (.ref q.2) = some (exSub p.1 q.1)) && decide (PySem.W.kitOne K (.ref p.2) (.ref q.2) = some (exSub p.1 q.1))
theorem excB_ok {K : PySem.W.Frag} {D : Addr} (h : excB K D = true) : ExcC K D ∧ XfC K D := by
  unfold excB at h
  simp only [Bool.and_eq_true, decide_eq_true_eq] at h
  obtain ⟨⟨⟨⟨h0, h1⟩, h2⟩, h3⟩, h4⟩ := h
  have x := xfB_ok h0
  exact ⟨⟨x.ga, x.gg, x.exC, x.hdC, h1, h2, h3, h4⟩, x⟩
theorem xt_mk {K : PySem.W.Frag} {mg : Str → Option Value} {Tab : List (Str × Addr)} (gl : ∀ p ∈ Tab, mg p.1 = some (.ref p.2)) (h : xtB K Tab = true) : XTab K mg Tab := by
  unfold xtB at h
  simp only [List.all_eq_true, Bool.and_eq_true, decide_eq_true_eq] at h
  exact ⟨gl, fun p hp => excB_ok (h p hp).1.1, fun p hp q hq => ((h p hp).2 q hq).1, fun p hp q hq => ((h p hp).2 q hq).2, fun p hp => (h p hp).1.2⟩
/-- a law's promise, whatever is said of exceptions -/
def spT (K : PySem.W.Frag) (fn : Fn) : L2.Sp := fun vs H Q E => ∀ EI : EIx, spD K EI 1 fn vs H Q E
theorem fn_spT {P : Program} {w : World} {K : PySem.W.Frag} {mg : Str → Option Value} {base : Heap} {k : Nat} {f : Addr} {fd : FuncData} {ps : List Str} {fn : Fn} {EI : EIx} (F : FnOk P w K mg base (L2.CX P w) k f fd ps (spD K EI 1 fn)) : FnOk P w K mg base (L2.CX P w) k f fd ps (spT K fn) :=
  ⟨fun vs H Q E h => F.len _ _ _ _ (h EI), fun A outer s H args us vs Q E hr e0 hb r h => F.run A outer s H args us vs Q E hr e0 hb r (h EI)⟩
theorem law_spT {K : PySem.W.Frag} {H : Hp} {a : Addr} {ns : List Int} {fn : Fn} (hS : SqL K H a (ns.map V.int)) (h : (fn [.val (scr ns)]).isTrue) : spT K fn [.ref a] H (fun v _ => v = .bl true) (fun _ _ _ => False) := by
  exact fun EI => law_sp hS h
theorem tb_nil {mg : Str → Option Value} : ∀ p ∈ ([] : List (Str × Addr)), mg p.1 = some (.ref p.2) := fun p h => (List.not_mem_nil h).elim
theorem tb_cons {mg : Str → Option Value} {x : Str} {a : Addr} {l : List (Str × Addr)} (h : mg x = some (.ref a)) (hl : ∀ p ∈ l, mg p.1 = some (.ref p.2)) : ∀ p ∈ (x, a) :: l, mg p.1 = some (.ref p.2) := fun p hp => by
  rcases List.mem_cons.mp hp with z | z
  · rw [z]; exact h
  · exact hl p z
section
variable {ι : Type} {Xs : ι → Cx} {P : Program} {w : World} {K : PySem.W.Frag} {mg : Str → Option Value} {base : Heap} {N : List Str} {k : Nat} {Wx : WX} {EI : EIx}
end
end DN

namespace DN
open PySem PySem.Spec L2
section
variable {τ κ α β γ σ : Type} {X X' : τ → Rh → Prop} {Γ Γ1 Γ2 Γ3 : τ → List Sp} {O : κ → τ → Fl → Rh → Prop} {f : Mo Dt} {cf cg : M τ Dt} {v u w : Mo Fl} {fa : Mo (List Dt)} {ca : M τ (List Dt)} {g : Mo Dt}
def pexn (x : Exn) : M τ α := fun t => .exn x t
def praise (cls : Str) (fs : List Str) (ca : M τ (List Dt)) : M τ α := pb ca fun ds => pif (decide (ds.length = fs.length) && ds.all fvD) (pexn ⟨cls, (fs.zip ds).reverse⟩) pz
theorem s_raiseT {cls : Str} (hx : ∀ t ρ, Mt (Γ t) ρ → X t ρ) : SJ X Γ (seqM (raiseT cls) v) (pexn ⟨cls, []⟩ : M τ κ) O := fun t ρ hm => ⟨ρ, rfl, hx t ρ hm⟩

inductive PkJ : List (Option Fn) → List (Option (List Dt → M Unit Dt)) → Prop where
  | nil : PkJ [] []
  | cons {fn : Fn} {P : List Dt → M Unit Dt} {a : List (Option Fn)} {b : List (Option (List Dt → M Unit Dt))} (h : FnJ fn P) (r : PkJ a b) : PkJ (some fn :: a) (some P :: b)
  | non {a : List (Option Fn)} {b : List (Option (List Dt → M Unit Dt))} (r : PkJ a b) : PkJ (none :: a) (none :: b)
def ppick (ps : List (Option (List Dt → M Unit Dt))) (cg : M τ Dt) (ca : M τ (List Dt)) : M τ Dt := pb cg fun d => match d with
  | .int j => (match atI ps j with
    | some (some P) => pfn P ca
    | _ => pz)
  | _ => pz
/-- ρ' knows at least what ρ knows -/
def Le (ρ ρ' : Rh) : Prop := ∀ (i : Nat) (d : Dt), ρ[i]? = some (some (.val d)) → ρ'[i]? = some (some (.val d))
theorem Le.set {ρ ρ' : Rh} (h : Le ρ ρ') (l : Nat) (d : Dt) (hl : l < ρ'.length) : Le (ρ.set l (some (.val d))) (ρ'.set l (some (.val d))) := fun i e q => by
  by_cases z : l = i
  · subst z
    by_cases hr : l < ρ.length
    · rw [List.getElem?_set_self hr] at q
      rw [List.getElem?_set_self hl]
      exact q
    · rw [List.getElem?_eq_none (by rw [List.length_set]; omega)] at q; cases q
  · rw [List.getElem?_set_ne z] at q ⊢
    exact h i e q
/-- what a suite tells, from empty slots -/
def psu (n : Nat) (f : Exn → Mo Fl) (x : Exn) : M τ Dt := fun t => match f x (List.replicate n none) with
  | .ok (.rt d) _ => .ok d t
  | _ => .stuck
def phand : List (Str × (Exn → M τ κ)) → Exn → M τ κ
  | [], x => pexn x
  | (c, k) :: l, x => pif (exSub x.cls c) (k x) (phand l x)
def ptry (cu : M τ (Lp σ)) (ch : Exn → M τ κ) (k : σ → M τ κ) (inj : Dt → κ) : M τ κ := fun t => match cu t with
  | .ok (.go s) t' => k s t'
  | .ok (.rt d) t' => .ok (inj d) t'
  | .ok (.stop _) _ => .stuck
  | .exn x t' => ch x t'
  | .stuck => .stuck
end
end DN

namespace DN
open PySem PySem.Spec L2 PySem.W
def dMaxD : Dt → Dt → Option Dt
  | .tuple ds, e => (toInts ds).bind fun ns => match ns with
    | [] => some e
    | n :: ns => some (.int (ns.foldl max n))
  | _, _ => none
section
variable {ι : Type} {Xs : ι → Cx} {P : Program} {w : World} {K : PySem.W.Frag} {mg : Str → Option Value} {base : Heap} {N : List Str} {k : Nat} {Wx : WX} {EI : EIx}
variable {a b : Expr} {f g : Mo Dt} {p pos kp : Pos}
end
end DN

namespace DN
open PySem PySem.Spec L2
section
variable {X : Cx}
end
section
variable {ι : Type} {Xs : ι → Cx} {K : PySem.W.Frag} {Wx : WX} {EI : EIx} {a b : Expr} {f g : Mo Dt} {pos : Pos}
end
end DN

namespace DN
open PySem PySem.Spec L2 PySem.W
section
variable {ι : Type} {Xs : ι → Cx} {P : Program} {w : World} {K : PySem.W.Frag} {mg : Str → Option Value} {base : Heap} {N : List Str} {k : Nat} {Wx : WX} {EI : EIx}
variable {a : Expr} {fa : Mo (List Dt)} {p pos kp cp : Pos} {cj : Nat}
theorem fe_sortR (G : Good Xs P w K mg base N k Wx) (hm : mg "sorted" = none) (ha : FA Xs K EI Wx [a] fa) (hg : ∀ i, Gl (Xs i) "sorted" := by intro _; rfl)
    (he : ∀ i, backTo pos (starEach [a] (Xs i).env) = (false, eval a (Xs i).env) :: backTo pos (starEach [] (Xs i).env) := by intro _; rfl) (hpl : ∀ i, (backTo pos (starEach [a] (Xs i).env)).any (·.1) = false := by intro _; rfl)
    (hall : ∀ i, (backToKw pos (keywordEach [⟨some (Str.ofString "reverse"), .Constant (.bool true) cj cp, kp⟩] (Xs i).env)).all (·.1.isSome) = true := by intro _; rfl) (hnone : ∀ i, (backToKw pos (keywordEach [⟨some (Str.ofString "reverse"), .Constant (.bool true) cj cp, kp⟩] (Xs i).env)).any (·.1.isNone) = false := by intro _; rfl) (hks : ∀ i, (backToKw pos (keywordEach [⟨some (Str.ofString "reverse"), .Constant (.bool true) cj cp, kp⟩] (Xs i).env)).filterMap (·.1) = [Str.ofString "reverse"] := by intro _; rfl) :
    FE Xs K EI Wx (.Call (.Name "sorted" p) [a] [⟨some (Str.ofString "reverse"), .Constant (.bool true) cj cp, kp⟩] pos) (callB dSortR fa) := by
  obtain ⟨t, pa, qa⟩ := ha
  refine ⟨tCKw (fun vs zs H Q => zs = [.bl true] ∧ rSortT K true vs H Q) t (tCons (tC (.bl true)) tNil), fun i => ?_, fun B F H ρ σ T Q R z => ?_⟩
  · have z := cr_sortTR (X := Xs i) (b := true)
    rw [G.hK i] at z
    exact pe_callBK z (hg i) (by rw [G.hm i]; exact hm) PyProof.Rows.boot_sorted (pa i) (pk_cons pe_bl pk_nil) (by decide) (by decide) (he i) (hpl i) (hall i) (hnone i) (hks i)
  · refine qa B F H ρ σ T _ R (z.bnd fun ds ρ1 F1 H1 R1 S1 h1 vs dvs => ?_)
    obtain ⟨d, ed, h2⟩ := h1.opt
    exact ⟨rfl, sortROk F1 H1 vs ds d Q R1.fro dvs ed fun v F' H' G' dv => h2 F' H' (R1.grown G') (G'.same' R1.fro) v dv⟩
end
end DN

namespace DN
open PySem PySem.Spec L2
abbrev k_GREATEST_ENTRY : Dt := .int 999
abbrev k_MOST_PERIODS : Dt := .int 12
abbrev k_MOST_PLANS : Dt := .int 500
abbrev k_NAMES : Dt := .tuple [.str (Str.ofString "demands"), .str (Str.ofString "setups"), .str (Str.ofString "units"), .str (Str.ofString "holdings")]
abbrev k_ONE : Dt := .tuple [.int 1, .int 1]
abbrev k_ZERO : Dt := .tuple [.int 0, .int 1]
end DN
noncomputable section
namespace DN
open PySem PySem.Spec L2
def bd__law_taken : Mo Fl := (seqM (ifM (asB (op2 dGt (oIx 0 (ret (.int 3))) (ret (.int 0)))) (seqM (setM 3 (op2 dMod (callB dInt (consA (oIx 0 (ret (.int 3))) (ret []))) (var 1)))
    (seqM (putIx 0 (op2 dFdv (oIx 0 (ret (.int 3))) (var 1)) (ret (.int 3)))
    (retM (var 3)))) done)
    (seqM (putIx 0 (op2 dAdd (oIx 0 (ret (.int 1))) (ret (.int 1))) (ret (.int 1)))
    (seqM (ifM (asB (op2 dGt (oIx 0 (ret (.int 1))) (callB dLen (consA (oIx 0 (ret (.int 0))) (ret []))))) (seqM (putIx 0 (op2 dMod (callB dInt (consA (op2 dAdd (op2 dMul (oIx 0 (ret (.int 2))) (ret (.int 48271))) (ret (.int 11))) (ret []))) (ret (.int 2147483647))) (ret (.int 2)))
    (retM (op2 dMod (callB dInt (consA (op2 dFdv (oIx 0 (ret (.int 2))) (ret (.int 7))) (ret []))) (var 1)))) done)
    (seqM (setM 2 (op2 dIx (oIx 0 (ret (.int 0))) (op2 dSub (oIx 0 (ret (.int 1))) (ret (.int 1)))))
    (seqM (putIx 0 (op2 dMod (callB dInt (consA (op2 dAdd (op2 dAdd (op2 dMul (oIx 0 (ret (.int 2))) (ret (.int 48271))) (var 2)) (ret (.int 11))) (ret []))) (ret (.int 2147483647))) (ret (.int 2)))
    (seqM (ifM (asB (op2 dGe (var 2) (op2 dPow (ret (.int 10)) (ret (.int 18))))) (putIx 0 (op2 dFdv (var 2) (var 1)) (ret (.int 3))) done)
    (retM (op2 dMod (callB dInt (consA (var 2) (ret []))) (var 1)))))))))
def fn__law_taken : Fn := fnD 4 bd__law_taken
def c1__law_entries : Mo Ob := compM (rngM dR1 (consA (var 1) (ret []))) (fun d => putS 3 (.val d)) yes (callR fn__law_taken 0 (consA (var 2) (ret []))) [3]
def bd__law_entries : Mo Fl := (retM (callB dTup (consA (frz c1__law_entries) (ret []))))
def fn__law_entries : Fn := fnD 4 bd__law_entries
def bd__law_pick : Mo Fl := (retM (op2 dIx (var 1) (callR fn__law_taken 0 (consA (callB dLen (consA (var 1) (ret []))) (ret [])))))
def fn__law_pick : Fn := fnD 2 bd__law_pick
def c1__law_alike (fn0 : Fn) : Mo Ob := compM (rngM dR1 (consA (callB dLen (consA (var 1) (ret []))) (ret []))) (fun d => putS 2 (.val d)) (notM (asT (callM fn0 (consA (op2 dIx (var 0) (var 2)) (consA (op2 dIx (var 1) (var 2)) (ret [])))))) (var 2) [2]
def fn__law_alike : Nat → Fn
  | 0 => fun _ => .stuck
  | fuel + 1 => fnD 3 (seqM (ifM (asT (isi2M "tuple" "list" (var 1))) (seqM (ifM (orM (notM (asT (isi2M "tuple" "list" (var 0)))) (asB (op2 dNe (isiM "list" (var 0)) (isiM "list" (var 1))))) (retM (ret (.bool false))) done)
    (seqM (ifM (asB (op2 dNe (callB dLen (consA (var 0) (ret []))) (callB dLen (consA (var 1) (ret []))))) (retM (ret (.bool false))) done)
    (retM (op2 dEq (frz (c1__law_alike (fn__law_alike fuel))) (frz (lstM (ret []))))))) done)
    (seqM (ifM (orM (asB (op2 dIs (var 1) (ret .none))) (asT (isiM "str" (var 1)))) (retM (andV (op2 dEq (var 0) (var 1)) (op2 dEq (isiM "str" (var 0)) (isiM "str" (var 1))))) done)
    (retM (andV (isiM "int" (var 0)) (andV (op2 dEq (isiM "bool" (var 0)) (isiM "bool" (var 1))) (op2 dEq (var 0) (var 1)))))))
def bd_is_tuple_of : Mo Fl := (retM (andV (isiM "tuple" (var 0)) (op2 dEq (callB dLen (consA (var 0) (ret []))) (var 1))))
def fn_is_tuple_of : Fn := fnD 2 bd_is_tuple_of
def c1_has_problem_shape : Mo Ob := compM (iterM (var 0)) (fun d => putS 2 (.val d)) yes (isiM "tuple" (var 2)) [2]
def c2_has_problem_shape : Mo Ob := compM (iterM (var 0)) (fun d => putS 2 (.val d)) yes (op2 dEq (callB dLen (consA (var 2) (ret []))) (var 1)) [2]
def bd_has_problem_shape : Mo Fl := (seqM (ifM (orM (notM (asT (callM fn_is_tuple_of (consA (var 0) (consA (ret (.int 4)) (ret [])))))) (notM (asT (callB dAll (consA (frz c1_has_problem_shape) (ret [])))))) (retM (ret (.bool false))) done)
    (seqM (setM 1 (callB dLen (consA (op2 dIx (var 0) (ret (.int 0))) (ret []))))
    (retM (andV (chain dLe dLe (ret (.int 1)) (var 1) (ret k_MOST_PERIODS)) (callB dAll (consA (frz c2_has_problem_shape) (ret [])))))))
def fn_has_problem_shape : Fn := fnD 3 bd_has_problem_shape
def bd_is_integer : Mo Fl := (retM (typM "int" (var 0)))
def fn_is_integer : Fn := fnD 1 bd_is_integer
def bd_is_entry : Mo Fl := (retM (andV (callM fn_is_integer (consA (var 0) (ret []))) (chain dLe dLe (ret (.int 0)) (var 0) (ret k_GREATEST_ENTRY))))
def fn_is_entry : Fn := fnD 1 bd_is_entry
def b1_check_problem : Mo Fl := (ifM (notM (asT (callM fn_is_entry (consA (var 4) (ret []))))) (raiseM "BadProblem" ["part", "index"] (consA (var 1) (consA (var 3) (ret [])))) done)
def f1_check_problem : Mo Fl := forM (rngM enO (consA (var 2) (ret []))) (tupG (consG 3 (consG 4 nilG))) b1_check_problem
def b2_check_problem : Mo Fl := f1_check_problem
def f2_check_problem : Mo Fl := forM (rngM enO (consA (var 0) (ret []))) (tupG (consG 1 (consG 2 nilG))) b2_check_problem
def bd_check_problem : Mo Fl := (seqM (ifM (notM (asT (callM fn_has_problem_shape (consA (var 0) (ret []))))) (raiseM "BadProblem" ["part", "index"] (consA (ret .none) (consA (ret .none) (ret [])))) done)
    f2_check_problem)
def fn_check_problem : Fn := fnD 5 bd_check_problem
def bd_unit_cost : Mo Fl := (retM (op2 dAdd (op2 dIx (op2 dIx (var 0) (ret (.int 2))) (var 1)) (callB dSum (consA (sliceM (op2 dIx (var 0) (ret (.int 3))) (partM (var 1)) (partM (var 2))) (ret [])))))
def fn_unit_cost : Fn := fnD 3 bd_unit_cost
def b1_stock_levels : Mo Fl := (seqM (setM 3 (op2 dSub (op2 dAdd (var 3) (var 5)) (var 4)))
    (appM 2 (var 3)))
def f1_stock_levels : Mo Fl := forM (rngM zO (consA (var 0) (consA (var 1) (ret [])))) (tupG (consG 4 (consG 5 nilG))) b1_stock_levels
def bd_stock_levels : Mo Fl := (seqM (setO 2 (lstM (ret [])))
    (seqM (setM 3 (ret (.int 0)))
    (seqM f1_stock_levels
    (retM (var 2)))))
def fn_stock_levels : Fn := fnD 6 bd_stock_levels
def c1_are_amounts : Mo Ob := compM (iterM (var 0)) (fun d => putS 2 (.val d)) yes (andV (callM fn_is_integer (consA (var 2) (ret []))) (op2 dGe (var 2) (ret (.int 0)))) [2]
def bd_are_amounts : Mo Fl := (retM (andV (callM fn_is_tuple_of (consA (var 0) (consA (var 1) (ret [])))) (callB dAll (consA (frz c1_are_amounts) (ret [])))))
def fn_are_amounts : Fn := fnD 3 bd_are_amounts
def b1_check_plan : Mo Fl := (ifM (asB (op2 dLt (var 5) (ret (.int 0)))) (raiseM "BadPlan" ["index"] (consA (var 4) (ret []))) done)
def f1_check_plan : Mo Fl := forM (rngM enO (consA (var 3) (ret []))) (tupG (consG 4 (consG 5 nilG))) b1_check_plan
def bd_check_plan : Mo Fl := (seqM (setM 2 (op2 dIx (var 0) (ret (.int 0))))
    (seqM (ifM (notM (asT (callM fn_are_amounts (consA (var 1) (consA (callB dLen (consA (var 2) (ret []))) (ret [])))))) (raiseM "BadPlan" ["index"] (consA (ret .none) (ret []))) done)
    (seqM (setM 3 (callM fn_stock_levels (consA (var 2) (consA (var 1) (ret [])))))
    (seqM f1_check_plan
    (ifM (asB (op2 dGt (op2 dIx (var 3) (op1 dNeg (ret (.int 1)))) (ret (.int 0)))) (raiseM "BadPlan" ["index"] (consA (callB dLen (consA (var 2) (ret []))) (ret []))) done)))))
def fn_check_plan : Fn := fnD 6 bd_check_plan
def c1_start_periods : Mo Ob := compM (rngM enO (consA (var 0) (ret []))) (tupG (consG 1 (consG 2 nilG))) (asB (op2 dGt (var 2) (ret (.int 0)))) (var 1) [1, 2]
def bd_start_periods : Mo Fl := (retM (callB dTup (consA (frz c1_start_periods) (ret []))))
def fn_start_periods : Fn := fnD 3 bd_start_periods
def bd_starts : Mo Fl := (seqM (exprM (callM fn_check_problem (consA (var 0) (ret []))))
    (seqM (exprM (callM fn_check_plan (consA (var 0) (consA (var 1) (ret [])))))
    (retM (callM fn_start_periods (consA (var 1) (ret []))))))
def fn_starts : Fn := fnD 2 bd_starts
def b1_lot_row : Mo Fl := (seqM (augM 3 (op2 dIx (var 7) (var 6)))
    (seqM (augM 4 (op2 dMul (op2 dIx (var 7) (var 6)) (var 5)))
    (seqM (augM 5 (op2 dIx (var 10) (var 6)))
    (appM 2 (iteV (asB (op2 dGt (var 3) (ret (.int 0)))) (var 4) (ret (.int 0)))))))
def f1_lot_row : Mo Fl := forM (rngM dR2 (consA (var 1) (consA (callB dLen (consA (var 7) (ret []))) (ret [])))) (fun d => putS 6 (.val d)) b1_lot_row
def bd_lot_row : Mo Fl := (seqM (asgM (var 0) (tupG (consG 7 (consG 8 (consG 9 (consG 10 nilG))))))
    (seqM (setO 2 (repM (frz (lstM (consA (ret (.int 0)) (ret [])))) (op2 dAdd (var 1) (ret (.int 1)))))
    (seqM (setM 3 (ret (.int 0)))
    (seqM (setM 4 (op2 dIx (var 8) (var 1)))
    (seqM (setM 5 (op2 dIx (var 9) (var 1)))
    (seqM f1_lot_row
    (retM (var 2))))))))
def fn_lot_row : Fn := fnD 11 bd_lot_row
def c1_lot_table : Mo Ob := compM (rngM dR1 (consA (callB dLen (consA (op2 dIx (var 0) (ret (.int 0))) (ret []))) (ret []))) (fun d => putS 1 (.val d)) yes (callM fn_lot_row (consA (var 0) (consA (var 1) (ret [])))) [1]
def bd_lot_table : Mo Fl := (retM (frz c1_lot_table))
def fn_lot_table : Fn := fnD 2 bd_lot_table
def c1_stage_costs : Mo Ob := compM (rngM dR1 (consA (var 3) (ret []))) (fun d => putS 4 (.val d)) yes (op2 dAdd (oIx 2 (var 4)) (op2 dIx (op2 dIx (var 1) (var 4)) (var 3))) [4]
def b1_stage_costs : Mo Fl := (appM 2 (callB dMin (consA (frz c1_stage_costs) (ret []))))
def f1_stage_costs : Mo Fl := forM (rngM dR2 (consA (ret (.int 1)) (consA (op2 dAdd (callB dLen (consA (var 1) (ret []))) (ret (.int 1))) (ret [])))) (fun d => putS 3 (.val d)) b1_stage_costs
def bd_stage_costs : Mo Fl := (seqM (exprM (callM fn_check_problem (consA (var 0) (ret []))))
    (seqM (setM 1 (callM fn_lot_table (consA (var 0) (ret []))))
    (seqM (setO 2 (lstM (consA (ret (.int 0)) (ret []))))
    (seqM f1_stage_costs
    (retM (callB dTup (consA (var 2) (ret []))))))))
def fn_stage_costs : Fn := fnD 5 bd_stage_costs
def bd_least_cost : Mo Fl := (retM (op2 dIx (callM fn_stage_costs (consA (var 0) (ret []))) (op1 dNeg (ret (.int 1)))))
def fn_least_cost : Fn := fnD 1 bd_least_cost
def c1_rest_list : Mo Ob := compM (rngM dR2 (consA (op2 dAdd (var 3) (ret (.int 1))) (consA (op2 dAdd (var 1) (ret (.int 1))) (ret [])))) (fun d => putS 4 (.val d)) yes (op2 dAdd (op2 dIx (op2 dIx (var 0) (var 3)) (var 4)) (oIx 2 (var 4))) [4]
def b1_rest_list : Mo Fl := (putIx 2 (callB dMin (consA (frz c1_rest_list) (ret []))) (var 3))
def f1_rest_list : Mo Fl := forM (revM (var 1)) (fun d => putS 3 (.val d)) b1_rest_list
def bd_rest_list : Mo Fl := (seqM (setM 1 (callB dLen (consA (var 0) (ret []))))
    (seqM (setO 2 (repM (frz (lstM (consA (ret (.int 0)) (ret [])))) (op2 dAdd (var 1) (ret (.int 1)))))
    (seqM f1_rest_list
    (retM (var 2)))))
def fn_rest_list : Fn := fnD 5 bd_rest_list
def b1_steps_from : Mo Fl := (seqM (augM 5 (op2 dIx (var 0) (op2 dSub (var 6) (ret (.int 1)))))
    (ifM (andM (asB (op2 dGt (op2 dIx (var 0) (op2 dSub (var 6) (ret (.int 1)))) (ret (.int 0)))) (asB (op2 dEq (op2 dAdd (op2 dIx (op2 dIx (var 1) (var 3)) (var 6)) (op2 dIx (var 2) (var 6))) (op2 dIx (var 2) (var 3))))) (appM 4 (tupM (consA (var 5) (consA (var 6) (ret []))))) done))
def f1_steps_from : Mo Fl := forM (rngM dR2 (consA (op2 dAdd (var 3) (ret (.int 1))) (consA (op2 dAdd (callB dLen (consA (var 0) (ret []))) (ret (.int 1))) (ret [])))) (fun d => putS 6 (.val d)) b1_steps_from
def bd_steps_from : Mo Fl := (seqM (setO 4 (lstM (ret [])))
    (seqM (ifM (andM (asB (op2 dEq (op2 dIx (var 0) (var 3)) (ret (.int 0)))) (asB (op2 dEq (op2 dIx (var 2) (op2 dAdd (var 3) (ret (.int 1)))) (op2 dIx (var 2) (var 3))))) (appM 4 (tupM (consA (ret (.int 0)) (consA (op2 dAdd (var 3) (ret (.int 1))) (ret []))))) done)
    (seqM (setM 5 (ret (.int 0)))
    (seqM f1_steps_from
    (retM (var 4))))))
def fn_steps_from : Fn := fnD 7 bd_steps_from
def bd_step_amounts : Mo Fl := (retM (op2 dAdd (tupM (consA (var 0) (ret []))) (op2 dMulT (tupM (consA (ret (.int 0)) (ret []))) (op2 dSub (op2 dSub (var 2) (var 1)) (ret (.int 1))))))
def fn_step_amounts : Fn := fnD 3 bd_step_amounts
def b1_least_plan : Mo Fl := (seqM (asgM (op2 dIx (callM fn_steps_from (consA (var 1) (consA (var 2) (consA (var 3) (consA (callB dLen (consA (var 4) (ret []))) (ret [])))))) (ret (.int 0))) (tupG (consG 5 (consG 6 nilG))))
    (setM 4 (op2 dAdd (var 4) (callM fn_step_amounts (consA (var 5) (consA (callB dLen (consA (var 4) (ret []))) (consA (var 6) (ret []))))))))
def w1_least_plan : Mo Fl := whileM (asB (op2 dLt (callB dLen (consA (var 4) (ret []))) (callB dLen (consA (var 1) (ret []))))) b1_least_plan
def bd_least_plan : Mo Fl := (seqM (exprM (callM fn_check_problem (consA (var 0) (ret []))))
    (seqM (setM 1 (op2 dIx (var 0) (ret (.int 0))))
    (seqM (setM 2 (callM fn_lot_table (consA (var 0) (ret []))))
    (seqM (setM 3 (callM fn_rest_list (consA (var 2) (ret []))))
    (seqM (setM 4 (tupM (ret [])))
    (seqM w1_least_plan
    (retM (var 4))))))))
def fn_least_plan : Fn := fnD 7 bd_least_plan
def c1_least_plans : Mo Ob := compM (iterM (var 3)) (fun d => putS 7 (.val d)) yes (frz (lstM (consA (tupM (ret [])) (ret [])))) [7]
def c2_least_plans : Mo Ob := compM2 (iterM (var 6)) (tupG (consG 9 (consG 10 nilG))) yes (iterM (oIx 4 (var 10))) (fun d => putS 8 (.val d)) yes (op2 dAdd (callM fn_step_amounts (consA (var 9) (consA (var 5) (consA (var 10) (ret []))))) (var 8)) [9, 10, 8] [8]
def b1_least_plans : Mo Fl := (seqM (setM 6 (callM fn_steps_from (consA (var 1) (consA (var 2) (consA (var 3) (consA (var 5) (ret [])))))))
    (putIx 4 (frz c2_least_plans) (var 5)))
def f1_least_plans : Mo Fl := forM (revM (callB dLen (consA (var 1) (ret [])))) (fun d => putS 5 (.val d)) b1_least_plans
def bd_least_plans : Mo Fl := (seqM (exprM (callM fn_check_problem (consA (var 0) (ret []))))
    (seqM (setM 1 (op2 dIx (var 0) (ret (.int 0))))
    (seqM (setM 2 (callM fn_lot_table (consA (var 0) (ret []))))
    (seqM (setM 3 (callM fn_rest_list (consA (var 2) (ret []))))
    (seqM (setO 4 c1_least_plans)
    (seqM f1_least_plans
    (seqM (ifM (asB (op2 dGt (callB dLen (consA (oIx 4 (ret (.int 0))) (ret []))) (ret k_MOST_PLANS))) (raiseM "TooMany" ["most"] (consA (ret k_MOST_PLANS) (ret []))) done)
    (retM (oIx 4 (ret (.int 0)))))))))))
def fn_least_plans : Fn := fnD 11 bd_least_plans
def c1_are_entries : Mo Ob := compM (iterM (var 0)) (fun d => putS 2 (.val d)) yes (callM fn_is_entry (consA (var 2) (ret []))) [2]
def bd_are_entries : Mo Fl := (retM (andV (callM fn_is_tuple_of (consA (var 0) (consA (var 1) (ret [])))) (callB dAll (consA (frz c1_are_entries) (ret [])))))
def fn_are_entries : Fn := fnD 3 bd_are_entries
def b1__law_lowered : Mo Fl := (seqM (ifM (asB (op2 dEq (var 5) (ret (.int 0)))) (ret .bk) done)
    (parM 4 5 (xE (var 5)) (xE (op2 dMod (var 4) (var 5)))))
def f1__law_lowered : Mo Fl := forM (rngM dR1 (consA (ret (.int 2000)) (ret []))) (fun d => putS 2 (.val d)) b1__law_lowered
def bd__law_lowered : Mo Fl := (seqM (parM 4 5 (xE (callB dAbs (consA (var 0) (ret [])))) (xE (callB dAbs (consA (var 1) (ret [])))))
    (seqM f1__law_lowered
    (seqM (setM 3 (iteV (asB (op2 dGt (var 1) (ret (.int 0)))) (ret (.int 1)) (op1 dNeg (ret (.int 1)))))
    (retM (tupM (consA (op2 dFdv (op2 dMul (var 3) (var 0)) (var 4)) (consA (op2 dFdv (op2 dMul (var 3) (var 1)) (var 4)) (ret []))))))))
def fn__law_lowered : Fn := fnD 6 bd__law_lowered
def bd__law_less : Mo Fl := (retM (op2 dLt (op2 dMul (op2 dIx (var 0) (ret (.int 0))) (op2 dIx (var 1) (ret (.int 1)))) (op2 dMul (op2 dIx (var 1) (ret (.int 0))) (op2 dIx (var 0) (ret (.int 1))))))
def fn__law_less : Fn := fnD 2 bd__law_less
def bd_ratio : Mo Fl := (seqM (setM 2 (callB dGcd (consA (var 0) (consA (var 1) (ret [])))))
    (retM (tupM (consA (op2 dFdv (var 0) (var 2)) (consA (op2 dFdv (var 1) (var 2)) (ret []))))))
def fn_ratio : Fn := fnD 3 bd_ratio
def bd_is_less : Mo Fl := (retM (op2 dLt (op2 dMul (op2 dIx (var 0) (ret (.int 0))) (op2 dIx (var 1) (ret (.int 1)))) (op2 dMul (op2 dIx (var 1) (ret (.int 0))) (op2 dIx (var 0) (ret (.int 1))))))
def fn_is_less : Fn := fnD 2 bd_is_less
def b1_best_pairs : Mo Fl := (ifM (orM (notM (asT (var 1))) (asB (op2 dLt (op2 dIx (var 2) (ret (.int 1))) (op2 dIx (oIx 1 (op1 dNeg (ret (.int 1)))) (ret (.int 1)))))) (appM 1 (var 2)) done)
def f1_best_pairs : Mo Fl := forM (iterM (callB dSorted (consA (var 0) (ret [])))) (fun d => putS 2 (.val d)) b1_best_pairs
def bd_best_pairs : Mo Fl := (seqM (setO 1 (lstM (ret [])))
    (seqM f1_best_pairs
    (retM (var 1))))
def fn_best_pairs : Fn := fnD 3 bd_best_pairs
def bd_are_some_entries : Mo Fl := (retM (andV (isiM "tuple" (var 0)) (andV (chain dLe dLe (ret (.int 1)) (callB dLen (consA (var 0) (ret []))) (var 1)) (callM fn_are_entries (consA (var 0) (consA (callB dLen (consA (var 0) (ret []))) (ret [])))))))
def fn_are_some_entries : Fn := fnD 2 bd_are_some_entries
def bd_check_both : Mo Fl := (ifM (orM (notM (asT (callM fn_are_some_entries (consA (var 0) (consA (ret k_MOST_PERIODS) (ret [])))))) (notM (asT (callM fn_are_entries (consA (var 1) (consA (callB dLen (consA (var 0) (ret []))) (ret []))))))) (raiseT "BadRooms") done)
def fn_check_both : Fn := fnD 2 bd_check_both
def bd_slope : Mo Fl := (retM (callM fn_ratio (consA (op2 dSub (op2 dIx (var 1) (ret (.int 1))) (op2 dIx (var 0) (ret (.int 1)))) (consA (op2 dSub (op2 dIx (var 1) (ret (.int 0))) (op2 dIx (var 0) (ret (.int 0)))) (ret [])))))
def fn_slope : Fn := fnD 2 bd_slope
def b1_next_knot : Mo Fl := (seqM (parM 7 8 (xE (tupM (consA (var 4) (consA (op2 dIx (var 0) (var 4)) (ret []))))) (xE (tupM (consA (var 4) (consA (op2 dIx (var 1) (var 4)) (ret []))))))
    (seqM (ifM (asT (callM fn_is_less (consA (callM fn_slope (consA (var 2) (consA (var 6) (ret [])))) (consA (callM fn_slope (consA (var 2) (consA (var 7) (ret [])))) (ret []))))) (retM (var 6)) done)
    (seqM (ifM (asT (callM fn_is_less (consA (callM fn_slope (consA (var 2) (consA (var 8) (ret [])))) (consA (callM fn_slope (consA (var 2) (consA (var 5) (ret [])))) (ret []))))) (retM (var 5)) done)
    (seqM (ifM (notM (asT (callM fn_is_less (consA (callM fn_slope (consA (var 2) (consA (var 7) (ret [])))) (consA (callM fn_slope (consA (var 2) (consA (var 5) (ret [])))) (ret [])))))) (setM 5 (var 7)) done)
    (ifM (notM (asT (callM fn_is_less (consA (callM fn_slope (consA (var 2) (consA (var 6) (ret [])))) (consA (callM fn_slope (consA (var 2) (consA (var 8) (ret [])))) (ret [])))))) (setM 6 (var 8)) done)))))
def f1_next_knot : Mo Fl := forM (rngM dR2 (consA (var 3) (consA (callB dLen (consA (var 0) (ret []))) (ret [])))) (fun d => putS 4 (.val d)) b1_next_knot
def bd_next_knot : Mo Fl := (seqM (setM 3 (op2 dAdd (op2 dIx (var 2) (ret (.int 0))) (ret (.int 1))))
    (seqM (parM 5 6 (xE (tupM (consA (var 3) (consA (op2 dIx (var 0) (var 3)) (ret []))))) (xE (tupM (consA (var 3) (consA (op2 dIx (var 1) (var 3)) (ret []))))))
    (seqM f1_next_knot
    (retM (var 5)))))
def fn_next_knot : Fn := fnD 9 bd_next_knot
def c1_even : Mo Ob := compM (rngM dR1 (consA (op2 dAdd (var 2) (ret (.int 1))) (ret []))) (fun d => putS 8 (.val d)) yes (callB dSum (consA (sliceM (var 0) (ret none) (partM (var 8))) (ret []))) [8]
def c2_even : Mo Ob := compM (rngM zO (consA (var 3) (consA (op2 dAdd (op2 dAdd (tupM (consA (ret (.int 0)) (ret []))) (sliceM (var 1) (ret none) (partM (op1 dNeg (ret (.int 1)))))) (tupM (consA (ret (.int 0)) (ret [])))) (ret [])))) (tupG (consG 9 (consG 10 nilG))) yes (op2 dAdd (var 9) (var 10)) [9, 10]
def b1_even : Mo Fl := (seqM (setM 7 (callM fn_next_knot (consA (var 3) (consA (var 4) (consA (var 6) (ret []))))))
    (seqM (extM 5 (op2 dMul (frz (lstM (consA (callM fn_slope (consA (var 6) (consA (var 7) (ret [])))) (ret [])))) (op2 dSub (op2 dIx (var 7) (ret (.int 0))) (op2 dIx (var 6) (ret (.int 0))))))
    (setM 6 (var 7))))
def w1_even : Mo Fl := whileM (asB (op2 dLt (op2 dIx (var 6) (ret (.int 0))) (var 2))) b1_even
def bd_even : Mo Fl := (seqM (exprM (callM fn_check_both (consA (var 0) (consA (var 1) (ret [])))))
    (seqM (setM 2 (callB dLen (consA (var 0) (ret []))))
    (seqM (setM 3 (frz c1_even))
    (seqM (setM 4 (frz c2_even))
    (seqM (setO 5 (lstM (ret [])))
    (seqM (setM 6 (tupM (consA (ret (.int 0)) (consA (ret (.int 0)) (ret [])))))
    (seqM w1_even
    (retM (callB dTup (consA (var 5) (ret [])))))))))))
def fn_even : Fn := fnD 11 bd_even
def c1_law_33 : Mo Ob := compM (iterM (var 3)) (fun d => putS 11 (.val d)) yes (tupM (consA (var 11) (consA (ret (.int 1)) (ret [])))) [11]
def b1_law_33 : Mo Fl := (seqM (setM 10 (callM fn__law_lowered (consA (callB dSum (consA (sliceM (var 3) (partM (var 7)) (partM (var 9))) (ret []))) (consA (op2 dSub (var 9) (var 7)) (ret [])))))
    (ifM (orM (asB (op2 dIs (var 8) (ret .none))) (notM (asT (callM fn__law_less (consA (var 10) (consA (op2 dIx (var 8) (ret (.int 0))) (ret []))))))) (setM 8 (tupM (consA (var 10) (consA (var 9) (ret []))))) done))
def f1_law_33 : Mo Fl := forM (rngM dR2 (consA (op2 dAdd (var 7) (ret (.int 1))) (consA (op2 dAdd (var 2) (ret (.int 1))) (ret [])))) (fun d => putS 9 (.val d)) b1_law_33
def b2_law_33 : Mo Fl := (seqM (setM 8 (ret .none))
    (seqM f1_law_33
    (seqM (setM 6 (op2 dAdd (var 6) (op2 dMul (frz (lstM (consA (op2 dIx (var 8) (ret (.int 0))) (ret [])))) (op2 dSub (op2 dIx (var 8) (ret (.int 1))) (var 7)))))
    (setM 7 (op2 dIx (var 8) (ret (.int 1)))))))
def w1_law_33 : Mo Fl := whileM (asB (op2 dLt (var 7) (var 2))) b2_law_33
def c2_law_33 : Mo Ob := compM (iterM (var 5)) (fun d => putS 11 (.val d)) yes (tupM (consA (var 11) (consA (ret (.int 1)) (ret [])))) [11]
def bd_law_33 : Mo Fl := (seqM (setO 1 (lstM (consA (var 0) (consA (ret (.int 0)) (consA (ret (.int 3390)) (consA (ret (.int 0)) (ret [])))))))
    (seqM (setM 2 (op2 dAdd (ret (.int 1)) (callR fn__law_taken 1 (consA (ret (.int 9)) (ret [])))))
    (seqM (setM 3 (callR fn__law_entries 1 (consA (var 2) (consA (callR fn__law_pick 1 (consA (frz (lstM (consA (ret (.int 3)) (consA (ret (.int 12)) (consA (ret (.int 80)) (ret [])))))) (ret []))) (ret [])))))
    (seqM (ifM (notM (asT (callM (fn__law_alike 6) (consA (callM fn_even (consA (var 3) (consA (op2 dMulT (tupM (consA (ret (.int 0)) (ret []))) (var 2)) (ret [])))) (consA (callB dTup (consA (frz c1_law_33) (ret []))) (ret [])))))) (retM (ret (.bool false))) done)
    (seqM (parM 6 7 (xE (frz (lstM (ret [])))) (xE (ret (.int 0))))
    (seqM w1_law_33
    (seqM (ifM (notM (asT (callM (fn__law_alike 6) (consA (callM fn_even (consA (var 3) (consA (op2 dMulT (tupM (consA (ret (.int 999)) (ret []))) (var 2)) (ret [])))) (consA (callB dTup (consA (var 6) (ret []))) (ret [])))))) (retM (ret (.bool false))) done)
    (seqM (setM 4 (callM fn__law_lowered (consA (callB dSum (consA (var 3) (ret []))) (consA (var 2) (ret [])))))
    (seqM (setM 5 (callB dTup (consA (callB dSortR (consA (var 3) (ret []))) (ret []))))
    (seqM (ifM (notM (asT (callM (fn__law_alike 6) (consA (callM fn_even (consA (var 5) (consA (op2 dMulT (tupM (consA (ret (.int 999)) (ret []))) (var 2)) (ret [])))) (consA (callB dTup (consA (frz c2_law_33) (ret []))) (ret [])))))) (retM (ret (.bool false))) done)
    (retM (callM (fn__law_alike 6) (consA (callM fn_even (consA (callB dTup (consA (callB dSorted (consA (var 3) (ret []))) (ret []))) (consA (op2 dMulT (tupM (consA (ret (.int 999)) (ret []))) (var 2)) (ret [])))) (consA (op2 dMulT (tupM (consA (var 4) (ret []))) (var 2)) (ret [])))))))))))))))
def fn_law_33 : Fn := fnD 12 bd_law_33
end DN
end

noncomputable section
namespace DN
open PySem PySem.Spec L2

def P_is_tuple_of : List Dt → M Unit Dt
  | [value_1, many_1] => (pb (pandV (p1 (fun d => (kitB (kindOf d) "tuple").map .bool) (pr value_1)) (p2 dEq (pcall dLen (pcons (pr value_1) (pr []))) (pr many_1))) fun d_ => pr d_)
  | _ => pz
theorem J_is_tuple_of : FnJ fn_is_tuple_of P_is_tuple_of := fun ds => match ds with
  | [value_1, many_1] => fnj_at (n := 2) (ds := [value_1, many_1]) (show SJ Xu (fun _ => [.val value_1, .val many_1]) bd_is_tuple_of _ (Oret Xu) from (s_last (s_ret (inj := fun d_ => d_) (e_andV (e_isi e_var) (e_op2 (e_callB (e_cons e_var e_ret)) e_var)) fun _ _ _ h => ⟨.inl rfl, trivial⟩)))
  | [] => trivial
  | [_] => trivial
  | _ :: _ :: _ :: _ => trivial

def P_is_integer : List Dt → M Unit Dt
  | [value_1] => (pb (ptyp "int" (pr value_1)) fun d_ => pr d_)
  | _ => pz
theorem J_is_integer : FnJ fn_is_integer P_is_integer := fun ds => match ds with
  | [value_1] => fnj_at (n := 1) (ds := [value_1]) (show SJ Xu (fun _ => [.val value_1]) bd_is_integer _ (Oret Xu) from (s_last (s_ret (inj := fun d_ => d_) (e_typ e_var) fun _ _ _ h => ⟨.inl rfl, trivial⟩)))
  | [] => trivial
  | _ :: _ :: _ => trivial


def P_is_entry : List Dt → M Unit Dt
  | [value_1] => (pb (pandV (pfn (ofFn fn_is_integer) (pcons (pr value_1) (pr []))) (pchain dLe dLe (pr (.int 0)) (pr value_1) (pr k_GREATEST_ENTRY))) fun d_ => pr d_)
  | _ => pz
theorem J_is_entry : FnJ fn_is_entry P_is_entry := fun ds => match ds with
  | [value_1] => fnj_at (n := 1) (ds := [value_1]) (show SJ Xu (fun _ => [.val value_1]) bd_is_entry _ (Oret Xu) from (s_last (s_ret (inj := fun d_ => d_) (e_andV (e_call (j_ofFn _) (e_cons e_var e_ret) (fun _ _ _ => trivial)) (e_chain e_ret e_var e_ret)) fun _ _ _ h => ⟨.inl rfl, trivial⟩)))
  | [] => trivial
  | _ :: _ :: _ => trivial

def P_starts : List Dt → M Unit Dt
  | [problem_1, plan_1] => (pb (pfn (ofFn fn_check_problem) (pcons (pr problem_1) (pr []))) fun _ => (pb (pfn (ofFn fn_check_plan) (pcons (pr problem_1) (pcons (pr plan_1) (pr [])))) fun _ => (pb (pfn (ofFn fn_start_periods) (pcons (pr plan_1) (pr []))) fun d_ => pr d_)))
  | _ => pz
theorem J_starts : FnJ fn_starts P_starts := fun ds => match ds with
  | [problem_1, plan_1] => fnj_at (n := 2) (ds := [problem_1, plan_1]) (show SJ Xu (fun _ => [.val problem_1, .val plan_1]) bd_starts _ (Oret Xu) from (s_last (s_assoc (s_expr (e_call (j_ofFn _) (e_cons e_var e_ret) (fun _ _ _ => trivial)) (s_assoc (s_expr (e_call (j_ofFn _) (e_cons e_var (e_cons e_var e_ret)) (fun _ _ _ => trivial)) (s_ret (inj := fun d_ => d_) (e_call (j_ofFn _) (e_cons e_var e_ret) (fun _ _ _ => trivial)) fun _ _ _ h => ⟨.inl rfl, trivial⟩)))))))
  | [] => trivial
  | [_] => trivial
  | _ :: _ :: _ :: _ => trivial

def pc1_setup_cost  : Dt → M (Unit) (Option Dt) := pel un2 (fun b_1 => (pasB (p2 dGt (pr b_1.2) (pr (.int 0))))) (fun b_1 => (pr b_1.1))
def P_setup_cost : List Dt → M Unit Dt
  | [problem_1, amounts_1] => (pb (pcall dSum (pcons (pfrz (pcomp (prng zO (pcons (p2 dIx (pr problem_1) (pr (.int 1))) (pcons (pr amounts_1) (pr [])))) pc1_setup_cost)) (pr []))) fun d_ => pr d_)
  | _ => pz
def pc1_running_cost  : Dt → M (Unit) (Option Dt) := pel un2 (fun b_1 => (pr true)) (fun b_1 => (p2 dMul (pr b_1.1) (pr b_1.2)))
def pc2_running_cost  : Dt → M (Unit) (Option Dt) := pel un2 (fun b_2 => (pr true)) (fun b_2 => (p2 dMul (pr b_2.1) (pr b_2.2)))
def P_running_cost : List Dt → M Unit Dt
  | [problem_1, amounts_1, levels_1] => (pb (pcall dSum (pcons (pfrz (pcomp (prng zO (pcons (p2 dIx (pr problem_1) (pr (.int 2))) (pcons (pr amounts_1) (pr [])))) pc1_running_cost)) (pr []))) fun making_1 => (pb (p2 dAdd (pr making_1) (pcall dSum (pcons (pfrz (pcomp (prng zO (pcons (p2 dIx (pr problem_1) (pr (.int 3))) (pcons (pr levels_1) (pr [])))) pc2_running_cost)) (pr [])))) fun d_ => pr d_))
  | _ => pz
def P_cost : List Dt → M Unit Dt
  | [problem_1, plan_1] => (pb (pfn (ofFn fn_check_problem) (pcons (pr problem_1) (pr []))) fun _ => (pb (pfn (ofFn fn_check_plan) (pcons (pr problem_1) (pcons (pr plan_1) (pr [])))) fun _ => (pb (p2 dAdd (pfn P_setup_cost (pcons (pr problem_1) (pcons (pr plan_1) (pr [])))) (pfn P_running_cost (pcons (pr problem_1) (pcons (pr plan_1) (pcons (pfn (ofFn fn_stock_levels) (pcons (p2 dIx (pr problem_1) (pr (.int 0))) (pcons (pr plan_1) (pr [])))) (pr [])))))) fun d_ => pr d_)))
  | _ => pz
def P_rest_costs : List Dt → M Unit Dt
  | [problem_1] => (pb (pfn (ofFn fn_check_problem) (pcons (pr problem_1) (pr []))) fun _ => (pb (pcall dTup (pcons (pfn (ofFn fn_rest_list) (pcons (pfn (ofFn fn_lot_table) (pcons (pr problem_1) (pr []))) (pr []))) (pr []))) fun d_ => pr d_))
  | _ => pz
def pc1_are_entries  : Dt → M (Unit) (Option Dt) := pel un1 (fun b_1 => (pr true)) (fun b_1 => (pfn (ofFn fn_is_entry) (pcons (pr b_1) (pr []))))
def P_are_entries : List Dt → M Unit Dt
  | [value_1, many_1] => (pb (pandV (pfn (ofFn fn_is_tuple_of) (pcons (pr value_1) (pcons (pr many_1) (pr [])))) (pcall dAll (pcons (pfrz (pcomp (piter (pr value_1)) pc1_are_entries)) (pr [])))) fun d_ => pr d_)
  | _ => pz
theorem J_are_entries : FnJ fn_are_entries P_are_entries := fun ds => match ds with
  | [value_1, many_1] => fnj_at (n := 3) (ds := [value_1, many_1]) (show SJ Xu (fun _ => [.val value_1, .val many_1, .any]) bd_are_entries _ (Oret Xu) from (s_last (s_ret (inj := fun d_ => d_) (e_andV (e_call (j_ofFn _) (e_cons e_var (e_cons e_var e_ret)) (fun _ _ _ => trivial)) (e_callB (e_cons (e_frz (o_comp (Γw := (fun _ => [.val value_1, .val many_1, .any])) (e_iter e_var) (fun _ => (.s (.s (.s .nil)))) (g_1 (i := 2)) (fun b_1 => e_ret) (fun b_1 => (e_call (j_ofFn _) (e_cons e_var e_ret) (fun _ _ _ => trivial))) (fun _ _ => (.s (.s (.s .nil)))) (fun _ _ => (.s (.s (.s .nil)))))) e_ret))) fun _ _ _ h => ⟨.inl rfl, trivial⟩)))
  | [] => trivial
  | [_] => trivial
  | _ :: _ :: _ :: _ => trivial

def pc1_joined  : Dt → M (Unit) (Option Dt) := pel un2 (fun b_1 => (pr true)) (fun b_1 => (p2 dAdd (pr b_1.1) (pr b_1.2)))
def P_joined : List Dt → M Unit Dt
  | [one_1, other_1] => (pb (pfn (ofFn fn_check_problem) (pcons (pr one_1) (pr []))) fun _ => (pb (pfn (ofFn fn_check_problem) (pcons (pr other_1) (pr []))) fun _ => (pite (pasB (p2 dGt (p2 dAdd (pcall dLen (pcons (p2 dIx (pr one_1) (pr (.int 0))) (pr []))) (pcall dLen (pcons (p2 dIx (pr other_1) (pr (.int 0))) (pr [])))) (pr k_MOST_PERIODS)))
  (praise "TooMany" ["most"] (pcons (pr k_MOST_PERIODS) (pr [])))
  (pb (pcall dTup (pcons (pfrz (pcomp (prng zO (pcons (pr one_1) (pcons (pr other_1) (pr [])))) pc1_joined)) (pr []))) fun d_ => pr d_))))
  | _ => pz
def pc1_stage_starts (demands_1 : Dt) (end_1 : Dt) (costs_1 : Dt) (table_1 : Dt) : Dt → M (Unit) (Option Dt) := pel un1 (fun b_1 => (pandM (pasB (p2 dGt (pcall dSum (pcons (pslice (pr demands_1) (ppart (pr b_1)) (ppart (pr end_1))) (pr []))) (pr (.int 0)))) (pasB (p2 dEq (p2 dAdd (p2 dIx (pr costs_1) (pr b_1)) (p2 dIx (p2 dIx (pr table_1) (pr b_1)) (pr end_1))) (p2 dIx (pr costs_1) (pr end_1)))))) (fun b_1 => (pr b_1))
def P_stage_starts : List Dt → M Unit Dt
  | [demands_1, costs_1, table_1, end_1] => (pb (pcall dTup (pcons (pfrz (pcomp (prng dR1 (pcons (pr end_1) (pr []))) (pc1_stage_starts demands_1 end_1 costs_1 table_1))) (pr []))) fun d_ => pr d_)
  | _ => pz
def pc1_last_starts (problem_1 : Dt) (costs_1 : Dt) (table_1 : Dt) : Dt → M (Unit) (Option Dt) := pel un1 (fun b_1 => (pr true)) (fun b_1 => (pfn P_stage_starts (pcons (p2 dIx (pr problem_1) (pr (.int 0))) (pcons (pr costs_1) (pcons (pr table_1) (pcons (pr b_1) (pr [])))))))
def P_last_starts : List Dt → M Unit Dt
  | [problem_1] => (pb (pfn (ofFn fn_stage_costs) (pcons (pr problem_1) (pr []))) fun costs_1 => (pb (pfn (ofFn fn_lot_table) (pcons (pr problem_1) (pr []))) fun table_1 => (pb (pcall dTup (pcons (pfrz (pcomp (prng dR2 (pcons (pr (.int 1)) (pcons (pcall dLen (pcons (pr costs_1) (pr []))) (pr [])))) (pc1_last_starts problem_1 costs_1 table_1))) (pr []))) fun d_ => pr d_)))
  | _ => pz
def pl1_cheapest_start (goal_1 : Dt) (problem_1 : Dt) : Dt → Dt → M (Unit) (Lp (Dt)) := fun d_ (s_1 : Dt) => pb (po (un1 d_)) fun (b_1 : Dt) =>
  (pite (pandM (pasB (p2 dLe (pr b_1) (pr goal_1))) (pasB (p2 dLe (pfn (ofFn fn_unit_cost) (pcons (pr problem_1) (pcons (pr b_1) (pcons (pr goal_1) (pr []))))) (pfn (ofFn fn_unit_cost) (pcons (pr problem_1) (pcons (pr s_1) (pcons (pr goal_1) (pr []))))))))
  (pb (pr b_1) fun best_2 => (pr (.go best_2)))
  (pr (.go s_1)))
def P_cheapest_start : List Dt → M Unit Dt
  | [problem_1, periods_1, goal_1] => (pb (p2 dIx (pr periods_1) (pr (.int 0))) fun best_1 => (pb (piter (pr periods_1)) fun ds_ => pb (forP (pl1_cheapest_start goal_1 problem_1) ds_ best_1) fun s_1 => (pb (pr s_1) fun d_ => pr d_)))
  | _ => pz
def pl1_improved (problem_1 : Dt) (periods_1 : Dt) : Dt → (List Dt) → M (Unit) (Lp (List Dt)) := fun d_ (s_1 : List Dt) => pb (po (un2 d_)) fun (b_1 : Dt × Dt) =>
  (pite (pasB (p2 dGt (pr b_1.2) (pr (.int 0))))
  (pb (pfn P_cheapest_start (pcons (pr problem_1) (pcons (pr periods_1) (pcons (pr b_1.1) (pr []))))) fun e_ => pb (paugX s_1 e_ (pr b_1.2)) fun amounts_2 => (pr (.go amounts_2)))
  (pr (.go s_1)))
def P_improved : List Dt → M Unit Dt
  | [problem_1, plan_1] => (pb (pfn (ofFn fn_check_problem) (pcons (pr problem_1) (pr []))) fun _ => (pb (pfn (ofFn fn_check_plan) (pcons (pr problem_1) (pcons (pr plan_1) (pr [])))) fun _ => (pb (pfn (ofFn fn_start_periods) (pcons (pr plan_1) (pr []))) fun periods_1 => (pb (prep (pfrz (plst (pcons (pr (.int 0)) (pr [])))) (pcall dLen (pcons (pr plan_1) (pr [])))) fun amounts_1 => (pb (prng enO (pcons (p2 dIx (pr problem_1) (pr (.int 0))) (pr []))) fun ds_ => pb (forP (pl1_improved problem_1 periods_1) ds_ amounts_1) fun s_1 => (pb (pcall dTup (pcons (pr (.list s_1)) (pr []))) fun d_ => pr d_))))))
  | _ => pz
def pl1_first_unsteady (units_1 : Dt) (holdings_1 : Dt) : Dt → Unit → M (Unit) (Lp (Unit)) := fun d_ (s_1 : Unit) => pb (po (un1 d_)) fun (b_1 : Dt) =>
  (pite (pasB (p2 dLt (p2 dAdd (p2 dIx (pr units_1) (pr b_1)) (p2 dIx (pr holdings_1) (pr b_1))) (p2 dIx (pr units_1) (p2 dAdd (pr b_1) (pr (.int 1))))))
  (pb (pr b_1) fun d_ => pr (Lp.rt d_))
  (pr (.go ())))
def P_first_unsteady : List Dt → M Unit Dt
  | [problem_1] => (pb (pnx (p2 dIx (pr problem_1) (pr (.int 2)))) fun units_1 => pb (pnx (p2 dIx (pr problem_1) (pr (.int 3)))) fun holdings_1 => (pb (prng dR1 (pcons (p2 dSub (pcall dLen (pcons (pr units_1) (pr []))) (pr (.int 1))) (pr []))) fun ds_ => pb (forR (pl1_first_unsteady units_1 holdings_1) ds_ ()) (pend (fun s_1 => (pb (pr .none) fun d_ => pr d_)) fun d_ => pr ((fun d_ => d_) d_))))
  | _ => pz
def P_check_steady : List Dt → M Unit Dt
  | [problem_1] => (pb (pfn (ofFn fn_check_problem) (pcons (pr problem_1) (pr []))) fun _ => (pb (pfn P_first_unsteady (pcons (pr problem_1) (pr []))) fun period_1 => (pite (pasB (p2 dIsN (pr period_1) (pr .none)))
  (praise "NotSteady" ["index"] (pcons (pr period_1) (pr [])))
  (pr .none))))
  | _ => pz
def pc1_start_marks  : Dt → M (Unit) (Option Dt) := pel un1 (fun b_1 => (pr true)) (fun b_1 => (pite (pasB (p2 dGt (pr b_1) (pr (.int 0)))) (pr k_ONE) (pr k_ZERO)))
def P_start_marks : List Dt → M Unit Dt
  | [plan_1] => (pb (pcall dTup (pcons (pfrz (pcomp (piter (pr plan_1)) pc1_start_marks)) (pr []))) fun d_ => pr d_)
  | _ => pz
def pc1_by_stock_rows  : Dt → M (Unit) (Option Dt) := pel un1 (fun b_1 => (pr true)) (fun b_1 => (ptup (pcons (pr b_1) (pcons (pr (.int 1)) (pr [])))))
def P_by_stock_rows : List Dt → M Unit Dt
  | [problem_1] => (pb (pfn P_check_steady (pcons (pr problem_1) (pr []))) fun _ => (pb (pfn (ofFn fn_least_plan) (pcons (pr problem_1) (pr []))) fun plan_1 => (pb (pcall dTup (pcons (pfrz (pcomp (piter (pfn (ofFn fn_stock_levels) (pcons (p2 dIx (pr problem_1) (pr (.int 0))) (pcons (pr plan_1) (pr []))))) pc1_by_stock_rows)) (pr []))) fun levels_1 => (pb (ptup (pcons (ptup (pcons (p2 dIx (pfn (ofFn fn_stage_costs) (pcons (pr problem_1) (pr []))) (p1 dNeg (pr (.int 1)))) (pcons (pr (.int 1)) (pr [])))) (pcons (pr levels_1) (pcons (pfn P_start_marks (pcons (pr plan_1) (pr []))) (pr []))))) fun d_ => pr d_))))
  | _ => pz
def P_is_steady : List Dt → M Unit Dt
  | [problem_1] => (pb (pfn (ofFn fn_check_problem) (pcons (pr problem_1) (pr []))) fun _ => (pb (p2 dIs (pfn P_first_unsteady (pcons (pr problem_1) (pr []))) (pr .none)) fun d_ => pr d_))
  | _ => pz
def pl1__law_lowered  : Dt → (Dt × Dt) → M (Unit) (Lp (Dt × Dt)) := fun d_ (s_1 : Dt × Dt) => pb (po (un1 d_)) fun (b_1 : Dt) =>
  (pite (pasB (p2 dEq (pr s_1.2) (pr (.int 0))))
  (pr (.stop (s_1.1, s_1.2)))
  (pb (pnx (pr s_1.2)) fun one_2 => pb (pnx (p2 dMod (pr s_1.1) (pr s_1.2))) fun other_2 => (pr (.go (one_2, other_2)))))
def P__law_lowered : List Dt → M Unit Dt
  | [top_1, low_1] => (pb (pnx (pcall dAbs (pcons (pr top_1) (pr [])))) fun one_1 => pb (pnx (pcall dAbs (pcons (pr low_1) (pr [])))) fun other_1 => (pb (prng dR1 (pcons (pr (.int 2000)) (pr []))) fun ds_ => pb (forP pl1__law_lowered ds_ (one_1, other_1)) fun s_1 => (pb (pite (pasB (p2 dGt (pr low_1) (pr (.int 0)))) (pr (.int 1)) (p1 dNeg (pr (.int 1)))) fun sign_1 => (pb (ptup (pcons (p2 dFdv (p2 dMul (pr sign_1) (pr top_1)) (pr s_1.1)) (pcons (p2 dFdv (p2 dMul (pr sign_1) (pr low_1)) (pr s_1.1)) (pr [])))) fun d_ => pr d_))))
  | _ => pz
theorem J__law_lowered : FnJ fn__law_lowered P__law_lowered := fun ds => match ds with
  | [top_1, low_1] => fnj_at (n := 6) (ds := [top_1, low_1]) (show SJ Xu (fun _ => [.val top_1, .val low_1, .any, .any, .any, .any]) bd__law_lowered _ (Oret Xu) from (s_last (s_assoc (s_par (x_e (e_callB (e_cons e_var e_ret))) (x_e (e_callB (e_cons e_var e_ret))) fun one_1 other_1 => (s_assoc (s_for (ΓL := fun (s_1 : Dt × Dt) => (fun _ => [.val top_1, .val low_1, .any, .any, .val s_1.1, .val s_1.2])) (e_rng (e_cons e_ret e_ret)) (fun _ => (.s (.s (.s (.s (.s (.s .nil))))))) (fun _ => (g_1 (i := 2))) (fun s_1 b_1 =>
  (s_last (s_assoc (s_if (e_asB (e_op2 e_var e_ret))
  (s_fl (fun h => nomatch h) fun _ _ h => ⟨rfl, mt_wk (.s (.s (.a rfl (.s (.s (.s .nil)))))) h⟩)
  (s_done (s_par (x_e e_var) (x_e (e_op2 e_var e_var)) fun one_2 other_2 => (s_end fun _ _ h => ⟨.inl rfl, mt_wk (.s (.s (.a rfl (.s (.s (.s .nil)))))) h⟩))))))) fun s_1 => (s_assoc (s_set (e_iteV (e_asB (e_op2 e_var e_ret)) e_ret (e_op1 e_ret)) fun sign_1 => (s_ret (inj := fun d_ => d_) (e_tup (e_cons (e_op2 (e_op2 e_var e_var) e_var) (e_cons (e_op2 (e_op2 e_var e_var) e_var) e_ret))) fun _ _ _ h => ⟨.inl rfl, trivial⟩)))))))))
  | [] => trivial
  | [_] => trivial
  | _ :: _ :: _ :: _ => trivial


def P__law_less : List Dt → M Unit Dt
  | [one_1, other_1] => (pb (p2 dLt (p2 dMul (p2 dIx (pr one_1) (pr (.int 0))) (p2 dIx (pr other_1) (pr (.int 1)))) (p2 dMul (p2 dIx (pr other_1) (pr (.int 0))) (p2 dIx (pr one_1) (pr (.int 1))))) fun d_ => pr d_)
  | _ => pz
theorem J__law_less : FnJ fn__law_less P__law_less := fun ds => match ds with
  | [one_1, other_1] => fnj_at (n := 2) (ds := [one_1, other_1]) (show SJ Xu (fun _ => [.val one_1, .val other_1]) bd__law_less _ (Oret Xu) from (s_last (s_ret (inj := fun d_ => d_) (e_op2 (e_op2 (e_op2 e_var e_ret) (e_op2 e_var e_ret)) (e_op2 (e_op2 e_var e_ret) (e_op2 e_var e_ret))) fun _ _ _ h => ⟨.inl rfl, trivial⟩)))
  | [] => trivial
  | [_] => trivial
  | _ :: _ :: _ :: _ => trivial


def pc1_prices (costs_1 : Dt) : Dt → M (Unit) (Option Dt) := pel un1 (fun b_1 => (pr true)) (fun b_1 => (p2 dSub (p2 dIx (pr costs_1) (pr b_1)) (p2 dIx (pr costs_1) (p2 dSub (pr b_1) (pr (.int 1))))))
def P_prices : List Dt → M Unit Dt
  | [problem_1] => (pb (pfn (ofFn fn_stage_costs) (pcons (pr problem_1) (pr []))) fun costs_1 => (pb (pcall dTup (pcons (pfrz (pcomp (prng dR2 (pcons (pr (.int 1)) (pcons (pcall dLen (pcons (pr costs_1) (pr []))) (pr [])))) (pc1_prices costs_1))) (pr []))) fun d_ => pr d_))
  | _ => pz
def pl1_keeps_setup (value_1 : Dt) (demands_1 : Dt) (problem_1 : Dt) (start_1 : Dt) : Dt → Dt → M (Unit) (Lp (Dt)) := fun d_ (s_1 : Dt) => pb (po (un1 d_)) fun (b_1 : Dt) =>
  (pb (paug s_1 (pcall dMax (pcons (pr (.int 0)) (pcons (p2 dSub (p2 dIx (pr value_1) (pr b_1)) (p2 dMul (p2 dIx (pr demands_1) (pr b_1)) (pfn (ofFn fn_unit_cost) (pcons (pr problem_1) (pcons (pr start_1) (pcons (pr b_1) (pr []))))))) (pr []))))) fun above_2 => (pr (.go above_2)))
def P_keeps_setup : List Dt → M Unit Dt
  | [problem_1, value_1, start_1] => (pb (p2 dIx (pr problem_1) (pr (.int 0))) fun demands_1 => (pb (pr (.int 0)) fun above_1 => (pb (prng dR2 (pcons (pr start_1) (pcons (pcall dLen (pcons (pr demands_1) (pr []))) (pr [])))) fun ds_ => pb (forP (pl1_keeps_setup value_1 demands_1 problem_1 start_1) ds_ above_1) fun s_1 => (pb (p2 dLe (pr s_1) (p2 dIx (p2 dIx (pr problem_1) (pr (.int 1))) (pr start_1))) fun d_ => pr d_))))
  | _ => pz
def pc1_shows_prices  : Dt → M (Unit) (Option Dt) := pel un1 (fun b_1 => (pr true)) (fun b_1 => (pfn (ofFn fn_is_integer) (pcons (pr b_1) (pr []))))
def pc2_shows_prices  : Dt → M (Unit) (Option Dt) := pel un2 (fun b_2 => (pr true)) (fun b_2 => (pandV (p2 dEq (pr b_2.1) (pr (.int 0))) (p2 dNe (pr b_2.2) (pr (.int 0)))))
def pc3_shows_prices (problem_1 : Dt) (value_1 : Dt) : Dt → M (Unit) (Option Dt) := pel un1 (fun b_3 => (pr true)) (fun b_3 => (pfn P_keeps_setup (pcons (pr problem_1) (pcons (pr value_1) (pcons (pr b_3) (pr []))))))
def P_shows_prices : List Dt → M Unit Dt
  | [problem_1, value_1] => (pb (pfn (ofFn fn_check_problem) (pcons (pr problem_1) (pr []))) fun _ => (pb (p2 dIx (pr problem_1) (pr (.int 0))) fun demands_1 => (pb (pcall dLen (pcons (pr demands_1) (pr []))) fun many_1 => (pite (porM (pnotM (pasT (pfn (ofFn fn_is_tuple_of) (pcons (pr value_1) (pcons (pr many_1) (pr [])))))) (pnotM (pasT (pcall dAll (pcons (pfrz (pcomp (piter (pr value_1)) pc1_shows_prices)) (pr []))))))
  (pb (pr (.bool false)) fun d_ => pr d_)
  (pite (pasT (pcall dAny (pcons (pfrz (pcomp (prng zO (pcons (pr demands_1) (pcons (pr value_1) (pr [])))) pc2_shows_prices)) (pr []))))
  (pb (pr (.bool false)) fun d_ => pr d_)
  (pb (pandV (p2 dEq (pcall dSum (pcons (pr value_1) (pr []))) (pfn (ofFn fn_least_cost) (pcons (pr problem_1) (pr [])))) (pcall dAll (pcons (pfrz (pcomp (prng dR1 (pcons (pr many_1) (pr []))) (pc3_shows_prices problem_1 value_1))) (pr [])))) fun d_ => pr d_))))))
  | _ => pz
def pc1_kept_to_end (holdings_1 : Dt) : Dt → M (Unit) (Option Dt) := pel un1 (fun b_1 => (pr true)) (fun b_1 => (pcall dSum (pcons (pslice (pr holdings_1) (ppart (pr b_1)) (pr none)) (pr []))))
def P_kept_to_end : List Dt → M Unit Dt
  | [problem_1] => (pb (p2 dIx (pr problem_1) (pr (.int 3))) fun holdings_1 => (pb (pfrz (pcomp (prng dR1 (pcons (pcall dLen (pcons (pr holdings_1) (pr []))) (pr []))) (pc1_kept_to_end holdings_1))) fun d_ => pr d_))
  | _ => pz
def P_is_useless : List Dt → M Unit Dt
  | [first_1, middle_1, last_1] => (pb (p2 dLe (p2 dMul (p2 dSub (p2 dIx (pr last_1) (pr (.int 1))) (p2 dIx (pr first_1) (pr (.int 1)))) (p2 dSub (p2 dIx (pr middle_1) (pr (.int 0))) (p2 dIx (pr first_1) (pr (.int 0))))) (p2 dMul (p2 dSub (p2 dIx (pr middle_1) (pr (.int 1))) (p2 dIx (pr first_1) (pr (.int 1)))) (p2 dSub (p2 dIx (pr last_1) (pr (.int 0))) (p2 dIx (pr first_1) (pr (.int 0)))))) fun d_ => pr d_)
  | _ => pz
def pw1_with_line (slope_1 : Dt) (height_1 : Dt) : (List Dt) → M (Unit) Bool := fun (s_1 : List Dt) => (pandM (pasB (p2 dGt (pr (.int s_1.length)) (pr (.int 1)))) (pasT (pfn P_is_useless (pcons (pix s_1 (p1 dNeg (pr (.int 2)))) (pcons (pix s_1 (p1 dNeg (pr (.int 1)))) (pcons (ptup (pcons (pr slope_1) (pcons (pr height_1) (pr [])))) (pr [])))))))
def pv1_with_line  : (List Dt) → M (Unit) (Lp (List Dt)) := fun (s_1 : List Dt) =>
  (pb (ppop s_1) fun kept_2 => (pr (.go kept_2)))
def P_with_line : List Dt → M Unit Dt
  | [lines_1, slope_1, height_1] => (pb (plis (pr lines_1)) fun kept_1 => (pb (whileP (pw1_with_line slope_1 height_1) pv1_with_line kept_1) fun s_1 => (pb (p2 dAdd (pr (.list s_1)) (pfrz (plst (pcons (ptup (pcons (pr slope_1) (pcons (pr height_1) (pr [])))) (pr []))))) fun d_ => pr d_)))
  | _ => pz
def P_worth_2 : List Dt → M Unit Dt
  | [line_1, price_1] => (pb (p2 dSub (p2 dIx (pr line_1) (pr (.int 1))) (p2 dMul (p2 dIx (pr line_1) (pr (.int 0))) (pr price_1))) fun d_ => pr d_)
  | _ => pz
def pw1_lowest  : (Dt × Dt) → M (Unit) Bool := fun (s_1 : Dt × Dt) => (pasB (p2 dLt (pr s_1.1) (pr s_1.2)))
def pv1_lowest (lines_1 : Dt) (price_1 : Dt) : (Dt × Dt) → M (Unit) (Lp (Dt × Dt)) := fun (s_1 : Dt × Dt) =>
  (pb (p2 dFdv (p2 dAdd (pr s_1.1) (pr s_1.2)) (pr (.int 2))) fun middle_1 => (pite (pasB (p2 dLe (pfn P_worth_2 (pcons (p2 dIx (pr lines_1) (pr middle_1)) (pcons (pr price_1) (pr [])))) (pfn P_worth_2 (pcons (p2 dIx (pr lines_1) (p2 dAdd (pr middle_1) (pr (.int 1)))) (pcons (pr price_1) (pr []))))))
  (pb (pr middle_1) fun high_2 => (pr (.go (s_1.1, high_2))))
  (pb (p2 dAdd (pr middle_1) (pr (.int 1))) fun low_2 => (pr (.go (low_2, s_1.2))))))
def P_lowest : List Dt → M Unit Dt
  | [lines_1, price_1] => (pb (pnx (pr (.int 0))) fun low_1 => pb (pnx (p2 dSub (pcall dLen (pcons (pr lines_1) (pr []))) (pr (.int 1)))) fun high_1 => (pb (whileP pw1_lowest (pv1_lowest lines_1 price_1) (low_1, high_1)) fun s_1 => (pb (pfn P_worth_2 (pcons (p2 dIx (pr lines_1) (pr s_1.1)) (pcons (pr price_1) (pr [])))) fun d_ => pr d_)))
  | _ => pz
def pl1_envelope_costs (b_1 : Dt × Dt × Dt × Dt) (spared_1 : Dt) : Dt → (Dt × List Dt × Dt × Dt × Dt) → M (Unit) (Lp (Dt × List Dt × Dt × Dt × Dt)) := fun d_ (s_1 : Dt × List Dt × Dt × Dt × Dt) => pb (po (un1 d_)) fun (b_3 : Dt) =>
  (pb (paug s_1.2.2.2.1 (p2 dIx (pr b_1.1) (pr b_3))) fun wanted_1 => (pb (paug s_1.2.2.2.2 (p2 dMul (p2 dIx (pr b_1.1) (pr b_3)) (p2 dIx (pr spared_1) (pr b_3)))) fun back_1 => (pb (p2 dAdd (p2 dIx (pr b_1.2.2.1) (pr b_3)) (p2 dIx (pr spared_1) (pr b_3))) fun price_1 => (pb (p2 dAdd (p2 dAdd (p2 dIx (pr b_1.2.1) (pr b_3)) (p2 dMul (pr price_1) (pr wanted_1))) (pfn P_lowest (pcons (pr s_1.1) (pcons (pr price_1) (pr []))))) fun lot_1 => (pb (pite (pasB (p2 dGt (p2 dIx (pr b_1.1) (pr b_3)) (pr (.int 0)))) (pr lot_1) (pcall dMin (pcons (pr lot_1) (pcons (pr s_1.2.2.1) (pr []))))) fun paid_1 => (pb (pfn P_with_line (pcons (pr s_1.1) (pcons (pr wanted_1) (pcons (pr paid_1) (pr []))))) fun lines_2 => (pb (p2 dSub (pr paid_1) (pr back_1)) fun d_ => pb (papp s_1.2.1 d_) fun costs_2 => (pr (.go (lines_2, costs_2, paid_1, wanted_1, back_1))))))))))
def P_envelope_costs : List Dt → M Unit Dt
  | [problem_1] => (pb (pfn (ofFn fn_check_problem) (pcons (pr problem_1) (pr []))) fun _ => (pb (pr problem_1) fun d_ => pb (po (un4 d_)) fun b_1 => (pb (pfn P_kept_to_end (pcons (pr problem_1) (pr []))) fun spared_1 => (pb (pfrz (plst (pcons (ptup (pcons (pr (.int 0)) (pcons (pr (.int 0)) (pr [])))) (pr [])))) fun lines_1 => (pb (plst (pcons (pr (.int 0)) (pr []))) fun costs_1 => (pb (ptup (pcons (pr (.int 0)) (pcons (pr (.int 0)) (pcons (pr (.int 0)) (pr []))))) fun d_ => pb (po (un3 d_)) fun b_2 => (pb (prev (pcall dLen (pcons (pr b_1.1) (pr [])))) fun ds_ => pb (forP (pl1_envelope_costs b_1 spared_1) ds_ (lines_1, costs_1, b_2.1, b_2.2.1, b_2.2.2)) fun s_1 => (pb (pcall dTup (pcons (pfrz (prevL (pr (.list s_1.2.1)))) (pr []))) fun d_ => pr d_))))))))
  | _ => pz
def P_ratio : List Dt → M Unit Dt
  | [top_1, bottom_1] => (pb (pcall dGcd (pcons (pr top_1) (pcons (pr bottom_1) (pr [])))) fun shared_1 => (pb (ptup (pcons (p2 dFdv (pr top_1) (pr shared_1)) (pcons (p2 dFdv (pr bottom_1) (pr shared_1)) (pr [])))) fun d_ => pr d_))
  | _ => pz
theorem J_ratio : FnJ fn_ratio P_ratio := fun ds => match ds with
  | [top_1, bottom_1] => fnj_at (n := 3) (ds := [top_1, bottom_1]) (show SJ Xu (fun _ => [.val top_1, .val bottom_1, .any]) bd_ratio _ (Oret Xu) from (s_last (s_assoc (s_set (e_callB (e_cons e_var (e_cons e_var e_ret))) fun shared_1 => (s_ret (inj := fun d_ => d_) (e_tup (e_cons (e_op2 e_var e_var) (e_cons (e_op2 e_var e_var) e_ret))) fun _ _ _ h => ⟨.inl rfl, trivial⟩)))))
  | [] => trivial
  | [_] => trivial
  | _ :: _ :: _ :: _ => trivial


def P_is_less : List Dt → M Unit Dt
  | [one_1, other_1] => (pb (p2 dLt (p2 dMul (p2 dIx (pr one_1) (pr (.int 0))) (p2 dIx (pr other_1) (pr (.int 1)))) (p2 dMul (p2 dIx (pr other_1) (pr (.int 0))) (p2 dIx (pr one_1) (pr (.int 1))))) fun d_ => pr d_)
  | _ => pz
theorem J_is_less : FnJ fn_is_less P_is_less := fun ds => match ds with
  | [one_1, other_1] => fnj_at (n := 2) (ds := [one_1, other_1]) (show SJ Xu (fun _ => [.val one_1, .val other_1]) bd_is_less _ (Oret Xu) from (s_last (s_ret (inj := fun d_ => d_) (e_op2 (e_op2 (e_op2 e_var e_ret) (e_op2 e_var e_ret)) (e_op2 (e_op2 e_var e_ret) (e_op2 e_var e_ret))) fun _ _ _ h => ⟨.inl rfl, trivial⟩)))
  | [] => trivial
  | [_] => trivial
  | _ :: _ :: _ :: _ => trivial

def pw1_common_row (one_1 : Dt) (other_1 : Dt) : Dt → M (Unit) Bool := fun (s_1 : Dt) => (pandM (pasB (p2 dLt (pr s_1) (pcall dMin (pcons (pcall dLen (pcons (pr one_1) (pr []))) (pcons (pcall dLen (pcons (pr other_1) (pr []))) (pr [])))))) (pasB (p2 dEq (p2 dIx (pr one_1) (pr s_1)) (p2 dIx (pr other_1) (pr s_1)))))
def pv1_common_row  : Dt → M (Unit) (Lp (Dt)) := fun (s_1 : Dt) =>
  (pb (paug s_1 (pr (.int 1))) fun many_2 => (pr (.go many_2)))
def P_common_row : List Dt → M Unit Dt
  | [one_1, other_1] => (pb (pr (.int 0)) fun many_1 => (pb (whileP (pw1_common_row one_1 other_1) pv1_common_row many_1) fun s_1 => (pb (pslice (pr one_1) (pr none) (ppart (pr s_1))) fun d_ => pr d_)))
  | _ => pz
def pc1_part_of (start_1 : Dt) (end_1 : Dt) : Dt → M (Unit) (Option Dt) := pel un1 (fun b_1 => (pr true)) (fun b_1 => (pslice (pr b_1) (ppart (pr start_1)) (ppart (pr end_1))))
def P_part_of : List Dt → M Unit Dt
  | [problem_1, start_1, end_1] => (pb (pcall dTup (pcons (pfrz (pcomp (piter (pr problem_1)) (pc1_part_of start_1 end_1))) (pr []))) fun d_ => pr d_)
  | _ => pz
def pl1_firm (problem_1 : Dt) : Dt → Dt → M (Unit) (Lp (Dt)) := fun d_ (s_1 : Dt) => pb (po (un1 d_)) fun (b_1 : Dt) =>
  (pb (pfn P_common_row (pcons (pr s_1) (pcons (pfn (ofFn fn_least_plan) (pcons (pfn P_part_of (pcons (pr problem_1) (pcons (pr (.int 0)) (pcons (pr b_1) (pr []))))) (pr []))) (pr [])))) fun common_2 => (pr (.go common_2)))
def P_firm : List Dt → M Unit Dt
  | [problem_1] => (pb (pfn P_check_steady (pcons (pr problem_1) (pr []))) fun _ => (pb (p2 dMaxD (p2 dIx (pfn P_last_starts (pcons (pr problem_1) (pr []))) (p1 dNeg (pr (.int 1)))) (pr (.int 0))) fun last_1 => (pb (pslice (pfn (ofFn fn_least_plan) (pcons (pr problem_1) (pr []))) (pr none) (ppart (pr last_1))) fun common_1 => (pb (prng dR2 (pcons (pcall dMax (pcons (pr last_1) (pcons (pr (.int 1)) (pr [])))) (pcons (pcall dLen (pcons (p2 dIx (pr problem_1) (pr (.int 0))) (pr []))) (pr [])))) fun ds_ => pb (forP (pl1_firm problem_1) ds_ common_1) fun s_1 => (pb (pr s_1) fun d_ => pr d_)))))
  | _ => pz
def pc1_tradeoffs (paid_1 : Dt) (rest_1 : Dt) : Dt → M (Unit) (Option Dt) := pel un2 (fun b_3 => (pr true)) (fun b_3 => (ptup (pcons (p2 dAdd (pr b_3.1) (pr paid_1)) (pcons (p2 dAdd (pr b_3.2) (pr rest_1)) (pr [])))))
def pl1_tradeoffs (demands_1 : Dt) (b_1 : Dt) (setups_1 : Dt) (table_1 : Dt) (s_1 : List Dt) : Dt → (List Dt) → M (Unit) (Lp (List Dt)) := fun d_ (s_2 : List Dt) => pb (po (un1 d_)) fun (b_2 : Dt) =>
  (pb (pite (pasB (p2 dGt (pcall dSum (pcons (pslice (pr demands_1) (ppart (pr b_2)) (ppart (pr b_1))) (pr []))) (pr (.int 0)))) (p2 dIx (pr setups_1) (pr b_2)) (pr (.int 0))) fun paid_1 => (pb (p2 dSub (p2 dIx (p2 dIx (pr table_1) (pr b_2)) (pr b_1)) (pr paid_1)) fun rest_1 => (pb (pfrz (pcomp (piter (pix s_1 (pr b_2))) (pc1_tradeoffs paid_1 rest_1))) fun d_ => pb (pext s_2 d_) fun pairs_2 => (pr (.go pairs_2)))))
def pl2_tradeoffs (demands_1 : Dt) (setups_1 : Dt) (table_1 : Dt) : Dt → (List Dt) → M (Unit) (Lp (List Dt)) := fun d_ (s_1 : List Dt) => pb (po (un1 d_)) fun (b_1 : Dt) =>
  (pb (plst (pr [])) fun pairs_1 => (pb (prng dR1 (pcons (pr b_1) (pr []))) fun ds_ => pb (forP (pl1_tradeoffs demands_1 b_1 setups_1 table_1 s_1) ds_ pairs_1) fun s_2 => (pb (pfn (ofFn fn_best_pairs) (pcons (pr (.list s_2)) (pr []))) fun d_ => pb (papp s_1 d_) fun stages_2 => (pr (.go stages_2)))))
def P_tradeoffs : List Dt → M Unit Dt
  | [problem_1] => (pb (pfn (ofFn fn_check_problem) (pcons (pr problem_1) (pr []))) fun _ => (pb (pnx (p2 dIx (pr problem_1) (pr (.int 0)))) fun demands_1 => pb (pnx (p2 dIx (pr problem_1) (pr (.int 1)))) fun setups_1 => (pb (pfn (ofFn fn_lot_table) (pcons (pr problem_1) (pr []))) fun table_1 => (pb (plst (pcons (pfrz (plst (pcons (ptup (pcons (pr (.int 0)) (pcons (pr (.int 0)) (pr [])))) (pr [])))) (pr []))) fun stages_1 => (pb (prng dR2 (pcons (pr (.int 1)) (pcons (p2 dAdd (pcall dLen (pcons (pr demands_1) (pr []))) (pr (.int 1))) (pr [])))) fun ds_ => pb (forP (pl2_tradeoffs demands_1 setups_1 table_1) ds_ stages_1) fun s_1 => (pb (pcall dTup (pcons (pix s_1 (p1 dNeg (pr (.int 1)))) (pr []))) fun d_ => pr d_))))))
  | _ => pz
def P_even_factor : List Dt → M Unit Dt
  | [one_1, other_1] => (pb (pfn P_ratio (pcons (p2 dSub (p2 dIx (pr one_1) (pr (.int 1))) (p2 dIx (pr other_1) (pr (.int 1)))) (pcons (p2 dSub (p2 dIx (pr other_1) (pr (.int 0))) (p2 dIx (pr one_1) (pr (.int 0)))) (pr [])))) fun d_ => pr d_)
  | _ => pz
def pl1_supported  : Dt → Dt → M (Unit) (Lp (Dt)) := fun d_ (s_1 : Dt) => pb (po (un2 d_)) fun (b_1 : Dt × Dt) =>
  (pb (pfn P_with_line (pcons (pr s_1) (pcons (pr b_1.1) (pcons (pr b_1.2) (pr []))))) fun pairs_2 => (pr (.go pairs_2)))
def pc1_supported (s_1 : Dt) : Dt → M (Unit) (Option Dt) := pel un1 (fun b_2 => (pr true)) (fun b_2 => (pfn P_even_factor (pcons (p2 dIx (pr s_1) (pr b_2)) (pcons (p2 dIx (pr s_1) (p2 dAdd (pr b_2) (pr (.int 1)))) (pr [])))))
def P_supported : List Dt → M Unit Dt
  | [problem_1] => (pb (pfrz (plst (pr []))) fun pairs_1 => (pb (piter (pfn P_tradeoffs (pcons (pr problem_1) (pr [])))) fun ds_ => pb (forP pl1_supported ds_ pairs_1) fun s_1 => (pb (p2 dAdd (pfrz (pcomp (prng dR1 (pcons (p2 dSub (pcall dLen (pcons (pr s_1) (pr []))) (pr (.int 1))) (pr []))) (pc1_supported s_1))) (pfrz (plst (pcons (pr k_ZERO) (pr []))))) fun factors_1 => pz)))
  | _ => pz
def pl1_write  : Dt → (List Dt) → M (Unit) (Lp (List Dt)) := fun d_ (s_1 : List Dt) => pb (po (un2 d_)) fun (b_1 : Dt × Dt) =>
  pz
def P_write : List Dt → M Unit Dt
  | [problem_1] => (pb (pfn (ofFn fn_check_problem) (pcons (pr problem_1) (pr []))) fun _ => (pb (plst (pr [])) fun lines_1 => (pb (prng zO (pcons (pr k_NAMES) (pcons (pr problem_1) (pr [])))) fun ds_ => pb (forP pl1_write ds_ lines_1) fun s_1 => pz)))
  | _ => pz
def P__law_told_2 : List Dt → M Unit Dt
  | [way_1, value_1] => (ptry (pite (pasB (p2 dEq (pr way_1) (pr (.int 11))))
  (pb (pfn P_shows_prices (pcons (pr value_1) (pcons (pr .none) (pr [])))) fun _ => (pr (.go ())))
  (pite (pasB (p2 dLt (pr way_1) (pr (.int 6))))
  (pb (ppick [some (ofFn fn_least_cost), some (ofFn fn_least_plan), some (ofFn fn_least_plans), some P_rest_costs, some (ofFn fn_stage_costs), some P_envelope_costs] (pr way_1) (pcons (pr value_1) (pr []))) fun _ => (pr (.go ())))
  (pb (ppick [some P_is_steady, some P_last_starts, some P_prices, some P_supported, some P_tradeoffs, none, some P_write] (p2 dSub (pr way_1) (pr (.int 6))) (pcons (pr value_1) (pr []))) fun _ => (pr (.go ()))))) (fun x_ => phand [(("BadProblem" : Str), fun x_ => pb (psu 3 (suR (uIte (uAnd (uTru (uIs "LotError")) (uTru (uC (.bool true)))) (uTup (uCons (uFld "BadProblem" "part") (uCons (uFld "BadProblem" "index") uNil))) (uC (.str (Str.ofString "other"))))) x_) fun d_ => pr ((fun d_ => d_) d_)), (("LotError" : Str), fun x_ => (pb (pr (.str (Str.ofString "other"))) fun d_ => pr d_))] x_) (fun (s_1 : Unit) => (pb (pr (.str (Str.ofString "fine"))) fun d_ => pr d_)) (fun d_ => d_))
  | _ => pz
def P__law_told_3 : List Dt → M Unit Dt
  | [way_1, one_1, other_1] => (ptry (pite (pasB (p2 dEq (pr way_1) (pr (.int 2))))
  (pb (pfn P_joined (pcons (pr one_1) (pcons (pr other_1) (pr [])))) fun _ => (pr (.go ())))
  (pb (ppick [some P_by_stock_rows, some P_firm] (pr way_1) (pcons (pr one_1) (pr []))) fun _ => (pr (.go ())))) (fun x_ => phand [(("NotSteady" : Str), fun x_ => pb (psu 4 (suR (uIte (uAnd (uTru (uIs "LotError")) (uTru (uC (.bool true)))) (uTup (uCons (uC (.str (Str.ofString "steady"))) (uCons (uFld "NotSteady" "index") uNil))) (uC (.str (Str.ofString "other"))))) x_) fun d_ => pr ((fun d_ => d_) d_)), (("BadProblem" : Str), fun x_ => pb (psu 4 (suR (uTup (uCons (uC (.str (Str.ofString "problem"))) (uCons (uFld "BadProblem" "part") (uCons (uFld "BadProblem" "index") uNil))))) x_) fun d_ => pr ((fun d_ => d_) d_)), (("TooMany" : Str), fun x_ => pb (psu 4 (suR (uTup (uCons (uC (.str (Str.ofString "many"))) (uCons (uFld "TooMany" "most") uNil)))) x_) fun d_ => pr ((fun d_ => d_) d_)), (("LotError" : Str), fun x_ => (pb (pr (.str (Str.ofString "other"))) fun d_ => pr d_))] x_) (fun (s_1 : Unit) => (pb (pr (.str (Str.ofString "fine"))) fun d_ => pr d_)) (fun d_ => d_))
  | _ => pz
def P_are_some_entries : List Dt → M Unit Dt
  | [value_1, most_1] => (pb (pandV (p1 (fun d => (kitB (kindOf d) "tuple").map .bool) (pr value_1)) (pandV (pchain dLe dLe (pr (.int 1)) (pcall dLen (pcons (pr value_1) (pr []))) (pr most_1)) (pfn P_are_entries (pcons (pr value_1) (pcons (pcall dLen (pcons (pr value_1) (pr []))) (pr [])))))) fun d_ => pr d_)
  | _ => pz
theorem J_are_some_entries : FnJ fn_are_some_entries P_are_some_entries := fun ds => match ds with
  | [value_1, most_1] => fnj_at (n := 2) (ds := [value_1, most_1]) (show SJ Xu (fun _ => [.val value_1, .val most_1]) bd_are_some_entries _ (Oret Xu) from (s_last (s_ret (inj := fun d_ => d_) (e_andV (e_isi e_var) (e_andV (e_chain e_ret (e_callB (e_cons e_var e_ret)) e_var) (e_call J_are_entries (e_cons e_var (e_cons (e_callB (e_cons e_var e_ret)) e_ret)) (fun _ _ _ => trivial)))) fun _ _ _ h => ⟨.inl rfl, trivial⟩)))
  | [] => trivial
  | [_] => trivial
  | _ :: _ :: _ :: _ => trivial


def P_check_both : List Dt → M Unit Dt
  | [demands_1, rooms_1] => (pite (porM (pnotM (pasT (pfn P_are_some_entries (pcons (pr demands_1) (pcons (pr k_MOST_PERIODS) (pr [])))))) (pnotM (pasT (pfn P_are_entries (pcons (pr rooms_1) (pcons (pcall dLen (pcons (pr demands_1) (pr []))) (pr [])))))))
  (pexn ⟨"BadRooms", []⟩)
  (pr .none))
  | _ => pz
theorem J_check_both : FnJ fn_check_both P_check_both := fun ds => match ds with
  | [demands_1, rooms_1] => fnj_at (n := 2) (ds := [demands_1, rooms_1]) (show SJ Xu (fun _ => [.val demands_1, .val rooms_1]) bd_check_both _ (Oret Xu) from (s_last (s_if (e_orM (e_notM (e_asT (e_call J_are_some_entries (e_cons e_var (e_cons e_ret e_ret)) (fun _ _ _ => trivial)))) (e_notM (e_asT (e_call J_are_entries (e_cons e_var (e_cons (e_callB (e_cons e_var e_ret)) e_ret)) (fun _ _ _ => trivial)))))
  (s_raiseT (fun _ _ _ => trivial))
  (s_done (s_end fun _ _ h => ⟨.inr ⟨rfl, rfl⟩, trivial⟩)))))
  | [] => trivial
  | [_] => trivial
  | _ :: _ :: _ :: _ => trivial


def P_slope : List Dt → M Unit Dt
  | [one_1, other_1] => (pb (pfn P_ratio (pcons (p2 dSub (p2 dIx (pr other_1) (pr (.int 1))) (p2 dIx (pr one_1) (pr (.int 1)))) (pcons (p2 dSub (p2 dIx (pr other_1) (pr (.int 0))) (p2 dIx (pr one_1) (pr (.int 0)))) (pr [])))) fun d_ => pr d_)
  | _ => pz
theorem J_slope : FnJ fn_slope P_slope := fun ds => match ds with
  | [one_1, other_1] => fnj_at (n := 2) (ds := [one_1, other_1]) (show SJ Xu (fun _ => [.val one_1, .val other_1]) bd_slope _ (Oret Xu) from (s_last (s_ret (inj := fun d_ => d_) (e_call J_ratio (e_cons (e_op2 (e_op2 e_var e_ret) (e_op2 e_var e_ret)) (e_cons (e_op2 (e_op2 e_var e_ret) (e_op2 e_var e_ret)) e_ret)) (fun _ _ _ => trivial)) fun _ _ _ h => ⟨.inl rfl, trivial⟩)))
  | [] => trivial
  | [_] => trivial
  | _ :: _ :: _ :: _ => trivial

def pl1_next_knot (floors_1 : Dt) (tops_1 : Dt) (knot_1 : Dt) : Dt → (Dt × Dt) → M (Unit) (Lp (Dt × Dt)) := fun d_ (s_1 : Dt × Dt) => pb (po (un1 d_)) fun (b_1 : Dt) =>
  (pb (pnx (ptup (pcons (pr b_1) (pcons (p2 dIx (pr floors_1) (pr b_1)) (pr []))))) fun floor_1 => pb (pnx (ptup (pcons (pr b_1) (pcons (p2 dIx (pr tops_1) (pr b_1)) (pr []))))) fun top_1 => (pite (pasT (pfn P_is_less (pcons (pfn P_slope (pcons (pr knot_1) (pcons (pr s_1.2) (pr [])))) (pcons (pfn P_slope (pcons (pr knot_1) (pcons (pr floor_1) (pr [])))) (pr [])))))
  (pb (pr s_1.2) fun d_ => pr (Lp.rt d_))
  (pite (pasT (pfn P_is_less (pcons (pfn P_slope (pcons (pr knot_1) (pcons (pr top_1) (pr [])))) (pcons (pfn P_slope (pcons (pr knot_1) (pcons (pr s_1.1) (pr [])))) (pr [])))))
  (pb (pr s_1.1) fun d_ => pr (Lp.rt d_))
  (pb (pite (pnotM (pasT (pfn P_is_less (pcons (pfn P_slope (pcons (pr knot_1) (pcons (pr floor_1) (pr [])))) (pcons (pfn P_slope (pcons (pr knot_1) (pcons (pr s_1.1) (pr [])))) (pr []))))))
  (pb (pr floor_1) fun steepest_2 => (pr steepest_2))
  (pr s_1.1)) fun (s_2 : Dt) => (pite (pnotM (pasT (pfn P_is_less (pcons (pfn P_slope (pcons (pr knot_1) (pcons (pr s_1.2) (pr [])))) (pcons (pfn P_slope (pcons (pr knot_1) (pcons (pr top_1) (pr [])))) (pr []))))))
  (pb (pr top_1) fun flattest_2 => (pr (.go (s_2, flattest_2))))
  (pr (.go (s_2, s_1.2))))))))
def P_next_knot : List Dt → M Unit Dt
  | [floors_1, tops_1, knot_1] => (pb (p2 dAdd (p2 dIx (pr knot_1) (pr (.int 0))) (pr (.int 1))) fun place_1 => (pb (pnx (ptup (pcons (pr place_1) (pcons (p2 dIx (pr floors_1) (pr place_1)) (pr []))))) fun steepest_1 => pb (pnx (ptup (pcons (pr place_1) (pcons (p2 dIx (pr tops_1) (pr place_1)) (pr []))))) fun flattest_1 => (pb (prng dR2 (pcons (pr place_1) (pcons (pcall dLen (pcons (pr floors_1) (pr []))) (pr [])))) fun ds_ => pb (forR (pl1_next_knot floors_1 tops_1 knot_1) ds_ (steepest_1, flattest_1)) (pend (fun s_1 => (pb (pr s_1.1) fun d_ => pr d_)) fun d_ => pr ((fun d_ => d_) d_)))))
  | _ => pz
theorem J_next_knot : FnJ fn_next_knot P_next_knot := fun ds => match ds with
  | [floors_1, tops_1, knot_1] => fnj_at (n := 9) (ds := [floors_1, tops_1, knot_1]) (show SJ Xu (fun _ => [.val floors_1, .val tops_1, .val knot_1, .any, .any, .any, .any, .any, .any]) bd_next_knot _ (Oret Xu) from (s_last (s_assoc (s_set (e_op2 (e_op2 e_var e_ret) e_ret) fun place_1 => (s_assoc (s_par (x_e (e_tup (e_cons e_var (e_cons (e_op2 e_var e_var) e_ret)))) (x_e (e_tup (e_cons e_var (e_cons (e_op2 e_var e_var) e_ret)))) fun steepest_1 flattest_1 => (s_assoc (s_forR (inj := (fun d_ => d_)) (ΓL := fun (s_1 : Dt × Dt) => (fun _ => [.val floors_1, .val tops_1, .val knot_1, .val place_1, .any, .val s_1.1, .val s_1.2, .any, .any])) (e_rng (e_cons e_var (e_cons (e_callB (e_cons e_var e_ret)) e_ret))) (fun _ => (.s (.s (.s (.s (.s (.s (.s (.s (.s .nil)))))))))) (fun _ => (g_1 (i := 4))) (fun s_1 b_1 =>
  (s_last (s_assoc (s_par (x_e (e_tup (e_cons e_var (e_cons (e_op2 e_var e_var) e_ret)))) (x_e (e_tup (e_cons e_var (e_cons (e_op2 e_var e_var) e_ret)))) fun floor_1 top_1 => (s_assoc (s_if (e_asT (e_call J_is_less (e_cons (e_call J_slope (e_cons e_var (e_cons e_var e_ret)) (fun _ _ _ => trivial)) (e_cons (e_call J_slope (e_cons e_var (e_cons e_var e_ret)) (fun _ _ _ => trivial)) e_ret)) (fun _ _ _ => trivial)))
  (s_ret (inj := Lp.rt) e_var fun _ _ _ h => ⟨rfl, ⟨.inl rfl, trivial⟩⟩)
  (s_done (s_assoc (s_if (e_asT (e_call J_is_less (e_cons (e_call J_slope (e_cons e_var (e_cons e_var e_ret)) (fun _ _ _ => trivial)) (e_cons (e_call J_slope (e_cons e_var (e_cons e_var e_ret)) (fun _ _ _ => trivial)) e_ret)) (fun _ _ _ => trivial)))
  (s_ret (inj := Lp.rt) e_var fun _ _ _ h => ⟨rfl, ⟨.inl rfl, trivial⟩⟩)
  (s_done (s_assoc (s_join (ΓJ := fun (s_2 : Dt) => (fun _ => [.val floors_1, .val tops_1, .val knot_1, .val place_1, .val b_1, .val s_2, .val s_1.2, .val floor_1, .val top_1])) (e_notM (e_asT (e_call J_is_less (e_cons (e_call J_slope (e_cons e_var (e_cons e_var e_ret)) (fun _ _ _ => trivial)) (e_cons (e_call J_slope (e_cons e_var (e_cons e_var e_ret)) (fun _ _ _ => trivial)) e_ret)) (fun _ _ _ => trivial))))
  (s_last (s_set e_var fun steepest_2 => (s_end fun _ _ h => ⟨rfl, mt_wk (.s (.s (.s (.s (.s (.s (.s (.s (.s .nil))))))))) h⟩)))
  (s_end fun _ _ h => ⟨rfl, mt_wk (.s (.s (.s (.s (.s (.s (.s (.s (.s .nil))))))))) h⟩) fun s_2 => (s_if (e_notM (e_asT (e_call J_is_less (e_cons (e_call J_slope (e_cons e_var (e_cons e_var e_ret)) (fun _ _ _ => trivial)) (e_cons (e_call J_slope (e_cons e_var (e_cons e_var e_ret)) (fun _ _ _ => trivial)) e_ret)) (fun _ _ _ => trivial))))
  (s_set e_var fun flattest_2 => (s_end fun _ _ h => ⟨.inl rfl, mt_wk (.s (.s (.s (.s (.a rfl (.s (.s (.a rfl (.a rfl .nil))))))))) h⟩))
  (s_done (s_end fun _ _ h => ⟨.inl rfl, mt_wk (.s (.s (.s (.s (.a rfl (.s (.s (.a rfl (.a rfl .nil))))))))) h⟩))))))))))))))) fun s_1 => (s_ret (inj := fun d_ => d_) e_var fun _ _ _ h => ⟨.inl rfl, trivial⟩)))))))))
  | [] => trivial
  | [_] => trivial
  | [_, _] => trivial
  | _ :: _ :: _ :: _ :: _ => trivial

def pc1_even (demands_1 : Dt) : Dt → M (Unit) (Option Dt) := pel un1 (fun b_1 => (pr true)) (fun b_1 => (pcall dSum (pcons (pslice (pr demands_1) (pr none) (ppart (pr b_1))) (pr []))))
def pc2_even  : Dt → M (Unit) (Option Dt) := pel un2 (fun b_2 => (pr true)) (fun b_2 => (p2 dAdd (pr b_2.1) (pr b_2.2)))
def pw1_even (many_1 : Dt) : (List Dt × Dt) → M (Unit) Bool := fun (s_1 : List Dt × Dt) => (pasB (p2 dLt (p2 dIx (pr s_1.2) (pr (.int 0))) (pr many_1)))
def pv1_even (floors_1 : Dt) (tops_1 : Dt) : (List Dt × Dt) → M (Unit) (Lp (List Dt × Dt)) := fun (s_1 : List Dt × Dt) =>
  (pb (pfn P_next_knot (pcons (pr floors_1) (pcons (pr tops_1) (pcons (pr s_1.2) (pr []))))) fun goal_1 => (pb (p2 dMul (pfrz (plst (pcons (pfn P_slope (pcons (pr s_1.2) (pcons (pr goal_1) (pr [])))) (pr [])))) (p2 dSub (p2 dIx (pr goal_1) (pr (.int 0))) (p2 dIx (pr s_1.2) (pr (.int 0))))) fun d_ => pb (pext s_1.1 d_) fun amounts_2 => (pb (pr goal_1) fun knot_2 => (pr (.go (amounts_2, knot_2))))))
def P_even : List Dt → M Unit Dt
  | [demands_1, rooms_1] => (pb (pfn P_check_both (pcons (pr demands_1) (pcons (pr rooms_1) (pr [])))) fun _ => (pb (pcall dLen (pcons (pr demands_1) (pr []))) fun many_1 => (pb (pfrz (pcomp (prng dR1 (pcons (p2 dAdd (pr many_1) (pr (.int 1))) (pr []))) (pc1_even demands_1))) fun floors_1 => (pb (pfrz (pcomp (prng zO (pcons (pr floors_1) (pcons (p2 dAdd (p2 dAdd (ptup (pcons (pr (.int 0)) (pr []))) (pslice (pr rooms_1) (pr none) (ppart (p1 dNeg (pr (.int 1)))))) (ptup (pcons (pr (.int 0)) (pr [])))) (pr [])))) pc2_even)) fun tops_1 => (pb (plst (pr [])) fun amounts_1 => (pb (ptup (pcons (pr (.int 0)) (pcons (pr (.int 0)) (pr [])))) fun knot_1 => (pb (whileP (pw1_even many_1) (pv1_even floors_1 tops_1) (amounts_1, knot_1)) fun s_1 => (pb (pcall dTup (pcons (pr (.list s_1.1)) (pr []))) fun d_ => pr d_))))))))
  | _ => pz
theorem J_even : FnJ fn_even P_even := fun ds => match ds with
  | [demands_1, rooms_1] => fnj_at (n := 11) (ds := [demands_1, rooms_1]) (show SJ Xu (fun _ => [.val demands_1, .val rooms_1, .any, .any, .any, .any, .any, .any, .any, .any, .any]) bd_even _ (Oret Xu) from (s_last (s_assoc (s_expr (e_call J_check_both (e_cons e_var (e_cons e_var e_ret)) (fun _ _ _ => trivial)) (s_assoc (s_set (e_callB (e_cons e_var e_ret)) fun many_1 => (s_assoc (s_set (e_frz (o_comp (Γw := (fun _ => [.val demands_1, .val rooms_1, .val many_1, .any, .any, .any, .any, .any, .any, .any, .any])) (e_rng (e_cons (e_op2 e_var e_ret) e_ret)) (fun _ => (.s (.s (.s (.s (.s (.s (.s (.s (.s (.s (.s .nil)))))))))))) (g_1 (i := 8)) (fun b_1 => e_ret) (fun b_1 => (e_callB (e_cons (e_slice e_var e_ret (e_part e_var)) e_ret))) (fun _ _ => (.s (.s (.s (.s (.s (.s (.s (.s (.s (.s (.s .nil)))))))))))) (fun _ _ => (.s (.s (.s (.s (.s (.s (.s (.s (.s (.s (.s .nil)))))))))))))) fun floors_1 => (s_assoc (s_set (e_frz (o_comp (Γw := (fun _ => [.val demands_1, .val rooms_1, .val many_1, .val floors_1, .any, .any, .any, .any, .any, .any, .any])) (e_rng (e_cons e_var (e_cons (e_op2 (e_op2 (e_tup (e_cons e_ret e_ret)) (e_slice e_var e_ret (e_part (e_op1 e_ret)))) (e_tup (e_cons e_ret e_ret))) e_ret))) (fun _ => (.s (.s (.s (.s (.s (.s (.s (.s (.s (.s (.s .nil)))))))))))) (g_2 (i := 9) (j := 10)) (fun b_2 => e_ret) (fun b_2 => (e_op2 e_var e_var)) (fun _ _ => (.s (.s (.s (.s (.s (.s (.s (.s (.s (.s (.s .nil)))))))))))) (fun _ _ => (.s (.s (.s (.s (.s (.s (.s (.s (.s (.s (.s .nil)))))))))))))) fun tops_1 => (s_assoc (s_setO (o_lst e_ret) fun amounts_1 => (s_assoc (s_set (e_tup (e_cons e_ret (e_cons e_ret e_ret))) fun knot_1 => (s_assoc (s_while (ΓL := fun (s_1 : List Dt × Dt) => (fun _ => [.val demands_1, .val rooms_1, .val many_1, .val floors_1, .val tops_1, .own (.lst s_1.1), .val s_1.2, .any, .any, .any, .any])) (fun _ => (.s (.s (.s (.s (.s (.s (.s (.s (.s (.s (.s .nil)))))))))))) (fun s_1 => (e_asB (e_op2 (e_op2 e_var e_ret) e_var))) (fun s_1 =>
  (s_last (s_assoc (s_set (e_call J_next_knot (e_cons e_var (e_cons e_var (e_cons e_var e_ret))) (fun _ _ _ => trivial)) fun goal_1 => (s_assoc (s_ext (fun _ => rfl) (e_op2 (e_frz (o_lst (e_cons (e_call J_slope (e_cons e_var (e_cons e_var e_ret)) (fun _ _ _ => trivial)) e_ret))) (e_op2 (e_op2 e_var e_ret) (e_op2 e_var e_ret))) (fun _ => rfl) fun amounts_2 => (s_set e_var fun knot_2 => (s_end fun _ _ h => ⟨.inl rfl, mt_wk (.s (.s (.s (.s (.s (.s (.s (.a rfl (.s (.s (.s .nil))))))))))) h⟩)))))))) fun s_1 => (s_ret (inj := fun d_ => d_) (e_callB (e_cons e_varO e_ret)) fun _ _ _ h => ⟨.inl rfl, trivial⟩)))))))))))))))))
  | [] => trivial
  | [_] => trivial
  | _ :: _ :: _ :: _ => trivial

def pc1_law_33  : Dt → M (List Dt) (Option Dt) := pel un1 (fun b_1 => (pr true)) (fun b_1 => (ptup (pcons (pr b_1) (pcons (pr (.int 1)) (pr [])))))
def pl1_law_33 (demands_1 : Dt) (s_1 : Dt × Dt) : Dt → Dt → M (List Dt) (Lp (Dt)) := fun d_ (s_2 : Dt) => pb (po (un1 d_)) fun (b_3 : Dt) =>
  (pb (pfn P__law_lowered (pcons (pcall dSum (pcons (pslice (pr demands_1) (ppart (pr s_1.2)) (ppart (pr b_3))) (pr []))) (pcons (p2 dSub (pr b_3) (pr s_1.2)) (pr [])))) fun told_1 => (pite (porM (pasB (p2 dIs (pr s_2) (pr .none))) (pnotM (pasT (pfn P__law_less (pcons (pr told_1) (pcons (p2 dIx (pr s_2) (pr (.int 0))) (pr [])))))))
  (pb (ptup (pcons (pr told_1) (pcons (pr b_3) (pr [])))) fun best_2 => (pr (.go best_2)))
  (pr (.go s_2))))
def pw1_law_33 (many_1 : Dt) : (Dt × Dt) → M (List Dt) Bool := fun (s_1 : Dt × Dt) => (pasB (p2 dLt (pr s_1.2) (pr many_1)))
def pv1_law_33 (many_1 : Dt) (demands_1 : Dt) : (Dt × Dt) → M (List Dt) (Lp (Dt × Dt)) := fun (s_1 : Dt × Dt) =>
  (pb (pr .none) fun best_1 => (pb (prng dR2 (pcons (p2 dAdd (pr s_1.2) (pr (.int 1))) (pcons (p2 dAdd (pr many_1) (pr (.int 1))) (pr [])))) fun ds_ => pb (forP (pl1_law_33 demands_1 s_1) ds_ best_1) fun s_2 => (pb (p2 dAdd (pr s_1.1) (p2 dMul (pfrz (plst (pcons (p2 dIx (pr s_2) (pr (.int 0))) (pr [])))) (p2 dSub (p2 dIx (pr s_2) (pr (.int 1))) (pr s_1.2)))) fun due_2 => (pb (p2 dIx (pr s_2) (pr (.int 1))) fun at_2 => (pr (.go (due_2, at_2)))))))
def pc2_law_33  : Dt → M (List Dt) (Option Dt) := pel un1 (fun b_4 => (pr true)) (fun b_4 => (ptup (pcons (pr b_4) (pcons (pr (.int 1)) (pr [])))))
def P_law_33 : List Dt → M Unit Dt
  | [script_1] => (pb (plst (pcons (pr script_1) (pcons (pr (.int 0)) (pcons (pr (.int 3390)) (pcons (pr (.int 0)) (pr [])))))) (prow (pb (p2 dAdd (pr (.int 1)) (pfnR (ofFnR fn__law_taken) (pcons (pr (.int 9)) (pr [])))) fun many_1 => (pb (pfnR (ofFnR fn__law_entries) (pcons (pr many_1) (pcons (pfnR (ofFnR fn__law_pick) (pcons (pfrz (plst (pcons (pr (.int 3)) (pcons (pr (.int 12)) (pcons (pr (.int 80)) (pr [])))))) (pr []))) (pr [])))) fun demands_1 => (pite (pnotM (pasT (pfn (ofFn (fn__law_alike 6)) (pcons (pfn P_even (pcons (pr demands_1) (pcons (p2 dMulT (ptup (pcons (pr (.int 0)) (pr []))) (pr many_1)) (pr [])))) (pcons (pcall dTup (pcons (pfrz (pcomp (piter (pr demands_1)) pc1_law_33)) (pr []))) (pr []))))))
  (pb (pr (.bool false)) fun d_ => pr d_)
  (pb (pnx (pfrz (plst (pr [])))) fun due_1 => pb (pnx (pr (.int 0))) fun at_1 => (pb (whileP (pw1_law_33 many_1) (pv1_law_33 many_1 demands_1) (due_1, at_1)) fun s_1 => (pite (pnotM (pasT (pfn (ofFn (fn__law_alike 6)) (pcons (pfn P_even (pcons (pr demands_1) (pcons (p2 dMulT (ptup (pcons (pr (.int 999)) (pr []))) (pr many_1)) (pr [])))) (pcons (pcall dTup (pcons (pr s_1.1) (pr []))) (pr []))))))
  (pb (pr (.bool false)) fun d_ => pr d_)
  (pb (pfn P__law_lowered (pcons (pcall dSum (pcons (pr demands_1) (pr []))) (pcons (pr many_1) (pr [])))) fun level_1 => (pb (pcall dTup (pcons (pcall dSortR (pcons (pr demands_1) (pr []))) (pr []))) fun falling_1 => (pite (pnotM (pasT (pfn (ofFn (fn__law_alike 6)) (pcons (pfn P_even (pcons (pr falling_1) (pcons (p2 dMulT (ptup (pcons (pr (.int 999)) (pr []))) (pr many_1)) (pr [])))) (pcons (pcall dTup (pcons (pfrz (pcomp (piter (pr falling_1)) pc2_law_33)) (pr []))) (pr []))))))
  (pb (pr (.bool false)) fun d_ => pr d_)
  (pb (pfn (ofFn (fn__law_alike 6)) (pcons (pfn P_even (pcons (pcall dTup (pcons (pcall dSorted (pcons (pr demands_1) (pr []))) (pr []))) (pcons (p2 dMulT (ptup (pcons (pr (.int 999)) (pr []))) (pr many_1)) (pr [])))) (pcons (p2 dMulT (ptup (pcons (pr level_1) (pr []))) (pr many_1)) (pr [])))) fun d_ => pr d_))))))))))))
  | _ => pz
theorem J_law_33 : FnJ fn_law_33 P_law_33 := fun ds => match ds with
  | [script_1] => fnj_at (n := 12) (ds := [script_1]) (show SJ Xu (fun _ => [.val script_1, .any, .any, .any, .any, .any, .any, .any, .any, .any, .any, .any]) bd_law_33 _ (Oret Xu) from (s_last (s_assoc (s_row (o_lst (e_cons e_var (e_cons e_ret (e_cons e_ret (e_cons e_ret e_ret))))) (s_assoc (s_set (e_op2 e_ret (e_callR (j_ofFnR _) (e_cons e_ret e_ret) (.inr fun _ => ⟨rfl, fun _ => rfl⟩) (.inr fun _ => ⟨rfl, fun _ => rfl⟩) (fun _ _ _ => trivial))) fun many_1 => (s_assoc (s_set (e_callR (j_ofFnR _) (e_cons e_var (e_cons (e_callR (j_ofFnR _) (e_cons (e_frz (o_lst (e_cons e_ret (e_cons e_ret (e_cons e_ret e_ret))))) e_ret) (.inr fun _ => ⟨rfl, fun _ => rfl⟩) (.inr fun _ => ⟨rfl, fun _ => rfl⟩) (fun _ _ _ => trivial)) e_ret)) (.inr fun _ => ⟨rfl, fun _ => rfl⟩) (.inr fun _ => ⟨rfl, fun _ => rfl⟩) (fun _ _ _ => trivial)) fun demands_1 => (s_assoc (s_if (e_notM (e_asT (e_call (j_ofFn _) (e_cons (e_call J_even (e_cons e_var (e_cons (e_op2 (e_tup (e_cons e_ret e_ret)) e_var) e_ret)) (fun _ _ _ => trivial)) (e_cons (e_callB (e_cons (e_frz (o_comp (Γw := (fun t => [.val script_1, .own (.lst t), .val many_1, .val demands_1, .any, .any, .any, .any, .any, .any, .any, .any])) (e_iter e_var) (fun _ => (.s (.s (.s (.s (.s (.s (.s (.s (.s (.s (.s (.s .nil))))))))))))) (g_1 (i := 11)) (fun b_1 => e_ret) (fun b_1 => (e_tup (e_cons e_var (e_cons e_ret e_ret)))) (fun _ _ => (.s (.s (.s (.s (.s (.s (.s (.s (.s (.s (.s (.s .nil))))))))))))) (fun _ _ => (.s (.s (.s (.s (.s (.s (.s (.s (.s (.s (.s (.s .nil))))))))))))))) e_ret)) e_ret)) (fun _ _ _ => trivial))))
  (s_ret (inj := fun d_ => d_) e_ret fun _ _ _ h => ⟨.inl rfl, trivial⟩)
  (s_done (s_assoc (s_par (x_e (e_frz (o_lst e_ret))) (x_e e_ret) fun due_1 at_1 => (s_assoc (s_while (ΓL := fun (s_1 : Dt × Dt) => (fun t => [.val script_1, .own (.lst t), .val many_1, .val demands_1, .any, .any, .val s_1.1, .val s_1.2, .any, .any, .any, .any])) (fun _ => (.s (.s (.s (.s (.s (.s (.s (.s (.s (.s (.s (.s .nil))))))))))))) (fun s_1 => (e_asB (e_op2 e_var e_var))) (fun s_1 =>
  (s_last (s_assoc (s_set e_ret fun best_1 => (s_assoc (s_for (ΓL := fun (s_2 : Dt) => (fun t => [.val script_1, .own (.lst t), .val many_1, .val demands_1, .any, .any, .val s_1.1, .val s_1.2, .val s_2, .any, .any, .any])) (e_rng (e_cons (e_op2 e_var e_ret) (e_cons (e_op2 e_var e_ret) e_ret))) (fun _ => (.s (.s (.s (.s (.s (.s (.s (.s (.s (.s (.s (.s .nil))))))))))))) (fun _ => (g_1 (i := 9))) (fun s_2 b_3 =>
  (s_last (s_assoc (s_set (e_call J__law_lowered (e_cons (e_callB (e_cons (e_slice e_var (e_part e_var) (e_part e_var)) e_ret)) (e_cons (e_op2 e_var e_var) e_ret)) (fun _ _ _ => trivial)) fun told_1 => (s_if (e_orM (e_asB (e_op2 e_var e_ret)) (e_notM (e_asT (e_call J__law_less (e_cons e_var (e_cons (e_op2 e_var e_ret) e_ret)) (fun _ _ _ => trivial)))))
  (s_set (e_tup (e_cons e_var (e_cons e_var e_ret))) fun best_2 => (s_end fun _ _ h => ⟨.inl rfl, mt_wk (.s (.s (.s (.s (.s (.s (.s (.s (.s (.a rfl (.a rfl (.s .nil)))))))))))) h⟩))
  (s_done (s_end fun _ _ h => ⟨.inl rfl, mt_wk (.s (.s (.s (.s (.s (.s (.s (.s (.s (.a rfl (.a rfl (.s .nil)))))))))))) h⟩))))))) fun s_2 => (s_assoc (s_set (e_op2 e_var (e_op2 (e_frz (o_lst (e_cons (e_op2 e_var e_ret) e_ret))) (e_op2 (e_op2 e_var e_ret) e_var))) fun due_2 => (s_set (e_op2 e_var e_ret) fun at_2 => (s_end fun _ _ h => ⟨.inl rfl, mt_wk (.s (.s (.s (.s (.s (.s (.s (.s (.a rfl (.s (.s (.s .nil)))))))))))) h⟩)))))))))) fun s_1 => (s_assoc (s_if (e_notM (e_asT (e_call (j_ofFn _) (e_cons (e_call J_even (e_cons e_var (e_cons (e_op2 (e_tup (e_cons e_ret e_ret)) e_var) e_ret)) (fun _ _ _ => trivial)) (e_cons (e_callB (e_cons e_var e_ret)) e_ret)) (fun _ _ _ => trivial))))
  (s_ret (inj := fun d_ => d_) e_ret fun _ _ _ h => ⟨.inl rfl, trivial⟩)
  (s_done (s_assoc (s_set (e_call J__law_lowered (e_cons (e_callB (e_cons e_var e_ret)) (e_cons e_var e_ret)) (fun _ _ _ => trivial)) fun level_1 => (s_assoc (s_set (e_callB (e_cons (e_callB (e_cons e_var e_ret)) e_ret)) fun falling_1 => (s_assoc (s_if (e_notM (e_asT (e_call (j_ofFn _) (e_cons (e_call J_even (e_cons e_var (e_cons (e_op2 (e_tup (e_cons e_ret e_ret)) e_var) e_ret)) (fun _ _ _ => trivial)) (e_cons (e_callB (e_cons (e_frz (o_comp (Γw := (fun t => [.val script_1, .own (.lst t), .val many_1, .val demands_1, .val level_1, .val falling_1, .val s_1.1, .val s_1.2, .any, .any, .any, .any])) (e_iter e_var) (fun _ => (.s (.s (.s (.s (.s (.s (.s (.s (.s (.s (.s (.s .nil))))))))))))) (g_1 (i := 11)) (fun b_4 => e_ret) (fun b_4 => (e_tup (e_cons e_var (e_cons e_ret e_ret)))) (fun _ _ => (.s (.s (.s (.s (.s (.s (.s (.s (.s (.s (.s (.s .nil))))))))))))) (fun _ _ => (.s (.s (.s (.s (.s (.s (.s (.s (.s (.s (.s (.s .nil))))))))))))))) e_ret)) e_ret)) (fun _ _ _ => trivial))))
  (s_ret (inj := fun d_ => d_) e_ret fun _ _ _ h => ⟨.inl rfl, trivial⟩)
  (s_done (s_ret (inj := fun d_ => d_) (e_call (j_ofFn _) (e_cons (e_call J_even (e_cons (e_callB (e_cons (e_callB (e_cons e_var e_ret)) e_ret)) (e_cons (e_op2 (e_tup (e_cons e_ret e_ret)) e_var) e_ret)) (fun _ _ _ => trivial)) (e_cons (e_op2 (e_tup (e_cons e_var e_ret)) e_var) e_ret)) (fun _ _ _ => trivial)) fun _ _ _ h => ⟨.inl rfl, trivial⟩))))))))))))))))))))))))))
  | [] => trivial
  | _ :: _ :: _ => trivial

end DN
end

namespace DN
open PySem PySem.Spec L2

abbrev iL (xs : List Int) : List Dt := xs.map .int
abbrev tI (xs : List Int) : Dt := .tuple (iL xs)
theorem ints_of {B : Int → Prop} : ∀ {es : List Dt}, (∀ e ∈ es, ∃ x, e = .int x ∧ B x) → ∃ xs : List Int, es = iL xs ∧ xs.length = es.length ∧ ∀ x ∈ xs, B x
  | [], _ => ⟨[], rfl, rfl, fun _ h => (List.not_mem_nil h).elim⟩
  | e :: es, h => by
    obtain ⟨x, rfl, bx⟩ := h _ List.mem_cons_self
    obtain ⟨xs, rfl, e2, b⟩ := ints_of (es := es) fun e he => h e (List.mem_cons_of_mem _ he)
    refine ⟨x :: xs, rfl, by simp, fun y hy => ?_⟩
    rcases List.mem_cons.mp hy with rfl | hy
    · exact bx
    · exact b y hy
theorem atI_iL {xs : List Int} {j : Nat} (h : j < xs.length) : atI (iL xs) (j : Int) = some (.int xs[j]) := atI_ofNat (by rw [List.getElem?_map, List.getElem?_eq_getElem h]; rfl)
theorem toInts_iL : ∀ xs : List Int, toInts (iL xs) = some xs
  | [] => rfl
  | x :: xs => by show (toInts (iL xs)).map (x :: ·) = _; rw [toInts_iL xs]; rfl
theorem sumT_iL (xs : List Int) : dSum [.tuple (iL xs)] = some (.int xs.sum) := by
  show (toInts (iL xs)).map _ = _
  rw [toInts_iL]; rfl
theorem range0 {n : Nat} (h : n ≤ 1000) : dR1 [.int n] = some ((List.range n).map fun (i : Nat) => PyData.int i) := by
  have h1 : (n : Int) < 2 ^ 62 := by omega
  have h0 : -(2 ^ 62) ≤ (n : Int) := by omega
  unfold dR1
  simp only [h0, h1, decide_true, Bool.and_self, if_true, rangeD, Int.zero_add, Int.toNat_natCast]

theorem compL_inv {g : Dt → Mo Unit} {p : Mo Bool} {f : Mo Dt} {vs : List Nat} (I : Rh → Prop) (Pz : Dt → Prop) : ∀ (ds acc : List Dt) (ρ : Rh), I ρ →
    (∀ d ∈ ds, ∀ ρ, I ρ → ∃ ρ1 ρ2 e ρ3, g d ρ = .ok () ρ1 ∧ p ρ1 = .ok true ρ2 ∧ f ρ2 = .ok e ρ3 ∧ Pz e ∧ I (wipeR ρ3 vs)) →
    ∃ es ρ', compL g p f vs ds acc ρ = .ok (acc ++ es) ρ' ∧ es.length = ds.length ∧ (∀ e ∈ es, Pz e) ∧ I ρ'
  | [], acc, ρ, h, _ => ⟨[], ρ, by simp [compL, ret], rfl, fun _ h => (List.not_mem_nil h).elim, h⟩
  | d :: ds, acc, ρ, h, hs => by
    obtain ⟨ρ1, ρ2, e, ρ3, h1, h2, h3, h4, h5⟩ := hs d List.mem_cons_self ρ h
    obtain ⟨es, ρ', g1, g2, g3, g4⟩ := compL_inv I Pz ds (acc ++ [e]) _ h5 fun d hd => hs d (List.mem_cons_of_mem _ hd)
    refine ⟨e :: es, ρ', ?_, by simp [g2], fun z hz => ?_, g4⟩
    · unfold compL
      simp only [h1, h2, h3, g1, List.append_assoc, List.singleton_append]
    · rcases List.mem_cons.mp hz with rfl | hz
      · exact h4
      · exact g3 z hz
theorem compM_inv {it : Mo (List Dt)} {g : Dt → Mo Unit} {p : Mo Bool} {f : Mo Dt} {vs : List Nat} {ρ ρ0 : Rh} {ds : List Dt} (I : Rh → Prop) (Pz : Dt → Prop)
    (hi : it ρ = .ok ds ρ0) (hl : ds.length ≤ 1000) (ha : (vs.all fun i => !hasArg ρ0 i) = true) (h0 : I (wipeR ρ0 vs))
    (hs : ∀ d ∈ ds, ∀ ρ, I ρ → ∃ ρ1 ρ2 e ρ3, g d ρ = .ok () ρ1 ∧ p ρ1 = .ok true ρ2 ∧ f ρ2 = .ok e ρ3 ∧ Pz e ∧ I (wipeR ρ3 vs)) :
    ∃ es ρ', compM it g p f vs ρ = .ok (.lst es) ρ' ∧ es.length = ds.length ∧ (∀ e ∈ es, Pz e) ∧ I ρ' := by
  obtain ⟨es, ρ', g1, g2, g3, g4⟩ := compL_inv I Pz ds [] _ h0 hs
  refine ⟨es, ρ', ?_, g2, g3, g4⟩
  have hl' := small1000 hl
  unfold compM bnd
  simp only [hi, hl', decide_true, ha, Bool.and_self, if_true, g1, List.nil_append]
/-- exactly -/
theorem compL_map {g : Dt → Mo Unit} {p : Mo Bool} {f : Mo Dt} {vs : List Nat} {α : Type} (u : α → Dt) (pp : α → Bool) (h : α → Dt) (ρ : Rh) : ∀ (xs : List α) (acc : List Dt),
    (∀ x ∈ xs, ∃ ρ1 ρ2, g (u x) ρ = .ok () ρ1 ∧ p ρ1 = .ok (pp x) ρ2 ∧ wipeR ρ2 vs = ρ ∧ (pp x = true → ∃ ρ3, f ρ2 = .ok (h x) ρ3 ∧ wipeR ρ3 vs = ρ)) →
    compL g p f vs (xs.map u) acc ρ = .ok (acc ++ (xs.filter pp).map h) ρ
  | [], acc, _ => by simp [compL, ret]
  | x :: xs, acc, hs => by
    obtain ⟨ρ1, ρ2, h1, h2, h3, h4⟩ := hs x List.mem_cons_self
    have ih := fun acc => compL_map u pp h ρ xs acc fun d hd => hs d (List.mem_cons_of_mem _ hd)
    rw [List.map_cons]
    unfold compL
    cases e : pp x with
    | true =>
      obtain ⟨ρ3, h5, h6⟩ := h4 e
      rw [e] at h2
      simp only [h1, h2, h5, h6, ih, List.filter_cons, e, if_true, List.map_cons, List.append_assoc, List.singleton_append]
    | false =>
      rw [e] at h2
      simp only [h1, h2, h3, ih, List.filter_cons, e]
      rfl
theorem compM_map {it : Mo (List Dt)} {g : Dt → Mo Unit} {p : Mo Bool} {f : Mo Dt} {vs : List Nat} {ρ ρ0 : Rh} {α : Type} (u : α → Dt) (pp : α → Bool) (h : α → Dt) (xs : List α)
    (hi : it ρ = .ok (xs.map u) ρ0) (hl : xs.length ≤ 1000) (ha : (vs.all fun i => !hasArg ρ0 i) = true)
    (hs : ∀ x ∈ xs, ∃ ρ1 ρ2, g (u x) (wipeR ρ0 vs) = .ok () ρ1 ∧ p ρ1 = .ok (pp x) ρ2 ∧ wipeR ρ2 vs = wipeR ρ0 vs ∧ (pp x = true → ∃ ρ3, f ρ2 = .ok (h x) ρ3 ∧ wipeR ρ3 vs = wipeR ρ0 vs)) :
    compM it g p f vs ρ = .ok (.lst ((xs.filter pp).map h)) (wipeR ρ0 vs) := by
  have g1 := compL_map u pp h (wipeR ρ0 vs) xs [] hs
  have hl' : (xs.map u).length < sizeLine := small1000 (by simpa using hl)
  unfold compM bnd
  simp only [hi, hl', decide_true, ha, Bool.and_self, if_true, g1, List.nil_append]
theorem ltaken_ok {r : List Dt} (h : Rw r) {m : Int} (h0 : 0 < m) (h1 : m < 1073741824) : ∃ (v : Int) (r' : List Dt), 0 ≤ v ∧ v < m ∧ Rw r' ∧ fn__law_taken [.arg (.lst r), .val (.int m)] = .ok (.int v) [.arg (.lst r'), .val (.int m)] := taken_ok h h0 h1
theorem c1_entries {r : List Dt} (h : Rw r) {n : Nat} (hn : n ≤ 1000) {m : Int} (h0 : 0 < m) (h1 : m < 1073741824) :
    ∃ (xs : List Int) (r' : List Dt), xs.length = n ∧ (∀ x ∈ xs, 0 ≤ x ∧ x < m) ∧ Rw r' ∧ c1__law_entries [some (.arg (.lst r)), some (.val (.int n)), some (.val (.int m)), none] = .ok (.lst (iL xs)) [some (.arg (.lst r')), some (.val (.int n)), some (.val (.int m)), none] := by
  unfold c1__law_entries
  have key := compM_inv (it := rngM dR1 (consA (var 1) (ret []))) (g := fun d => putS 3 (.val d)) (p := yes) (f := callR fn__law_taken 0 (consA (var 2) (ret []))) (vs := [3])
    (ρ := [some (.arg (.lst r)), some (.val (.int n)), some (.val (.int m)), none]) (ds := (List.range n).map fun (i : Nat) => PyData.int i)
    (fun ρ => ∃ r, Rw r ∧ ρ = [some (.arg (.lst r)), some (.val (.int n)), some (.val (.int m)), none]) (fun e => ∃ x, e = .int x ∧ 0 ≤ x ∧ x < m)
    (by simp (implicitDefEqProofs := false) [bind_ok, bind_exn, bind_stuck, bnd_ap, ret_ap, bad_ap, opt_some, opt_none, op2_ap, op1_ap, var_ap, varK_val, varK_own, dAdd_int, dSub_int, dLt_int, dLe_int, dGt_int, dGe_int, dFdv_int, dMod_int, dMulR, dMulL, dNeg_int, pow18, asB_ap, bK_b, dIs_none, dIsN_none, dIs_b, dIsN_b, isNone, dEq_ii, dNe_ii, dEq_bb, dNe_bb, chain_ap, chK_b, andM_ap, orM_ap, notM_ap, andV_ap, orV_ap, notV_ap, iteV_ap, consA_ap, tupM_ap, lstM_ap, sz0, sz1, sz2, sz3, sz4, sz5, frz_ap, frK_l, dIx_l, dIx_t, dIx_s, oIx_ap, isO_own, isO_arg, oK_own, oK_arg, partM_ap, pK_i, sliceM_ap, dSl_l, dSl_t, callB_ap, dLen_l, dLen_t, dLen_s, oLen_ap, oLK_own, oLK_arg, dInt_i, dTup_l, dTup_t, dAbs_i, lisM_ap, liK_l, liK_t, callM_ap, call_ok, getO_ap, gO_own, gO_arg, putR_ap, puK_own, puK_arg, fcallR_ok, cRK_s, callR_ap, putS_ap, pS_none, pS_val, pS_own, seqM_ap, seq_nx, seq_rt, seq_bk, seq_ct, done_ap, exprM_ap, retM_ap, ifM_ap, setM_ap, setO_ap, asg_ok, asgM_ap, xE_ap, xO_ap, auI_i, pxN_s, pxK_s, pxG_s, putIx_ap, apK_s, isLs_s, appM_ap, items_l, items_t, items_s, iterM_ap, rngM_ap, enO_ap, zO_ap, noX_ap, nox_ok, asT_ap, tK_b, tK_n, tK_i, tK_l, tK_t, tupG_t, consG_c, nilG_n, yes_ap, fnD_ap, fin_nx, fin_rt, backs_n, backs_c, pick_v, pick_a, isiM_ap, isi2M_ap, typM_ap, isDt_n, isDt_i, isDt_b, isDt_s, isDt_t, isDt_l, range0 hn]; rfl) (by simpa using hn) (by rfl) ⟨r, h, rfl⟩ (fun d _ ρ I => by
      obtain ⟨r, hr, rfl⟩ := I
      obtain ⟨v, r', v0, v1, hr', e⟩ := ltaken_ok hr h0 h1
      refine ⟨[some (.arg (.lst r)), some (.val (.int n)), some (.val (.int m)), some (.val d)], _, .int v, _, rfl, rfl, by simp (implicitDefEqProofs := false) [bind_ok, bind_exn, bind_stuck, bnd_ap, ret_ap, bad_ap, opt_some, opt_none, op2_ap, op1_ap, var_ap, varK_val, varK_own, dAdd_int, dSub_int, dLt_int, dLe_int, dGt_int, dGe_int, dFdv_int, dMod_int, dMulR, dMulL, dNeg_int, pow18, asB_ap, bK_b, dIs_none, dIsN_none, dIs_b, dIsN_b, isNone, dEq_ii, dNe_ii, dEq_bb, dNe_bb, chain_ap, chK_b, andM_ap, orM_ap, notM_ap, andV_ap, orV_ap, notV_ap, iteV_ap, consA_ap, tupM_ap, lstM_ap, sz0, sz1, sz2, sz3, sz4, sz5, frz_ap, frK_l, dIx_l, dIx_t, dIx_s, oIx_ap, isO_own, isO_arg, oK_own, oK_arg, partM_ap, pK_i, sliceM_ap, dSl_l, dSl_t, callB_ap, dLen_l, dLen_t, dLen_s, oLen_ap, oLK_own, oLK_arg, dInt_i, dTup_l, dTup_t, dAbs_i, lisM_ap, liK_l, liK_t, callM_ap, call_ok, getO_ap, gO_own, gO_arg, putR_ap, puK_own, puK_arg, fcallR_ok, cRK_s, callR_ap, putS_ap, pS_none, pS_val, pS_own, seqM_ap, seq_nx, seq_rt, seq_bk, seq_ct, done_ap, exprM_ap, retM_ap, ifM_ap, setM_ap, setO_ap, asg_ok, asgM_ap, xE_ap, xO_ap, auI_i, pxN_s, pxK_s, pxG_s, putIx_ap, apK_s, isLs_s, appM_ap, items_l, items_t, items_s, iterM_ap, rngM_ap, enO_ap, zO_ap, noX_ap, nox_ok, asT_ap, tK_b, tK_n, tK_i, tK_l, tK_t, tupG_t, consG_c, nilG_n, yes_ap, fnD_ap, fin_nx, fin_rt, backs_n, backs_c, pick_v, pick_a, isiM_ap, isi2M_ap, typM_ap, isDt_n, isDt_i, isDt_b, isDt_s, isDt_t, isDt_l, e]; rfl, ⟨v, rfl, v0, v1⟩, r', hr', rfl⟩)
  obtain ⟨es, ρ', e, hl, hp, r', hr', rfl⟩ := key
  obtain ⟨xs, rfl, hx, hb⟩ := ints_of hp
  exact ⟨xs, r', by rw [hx, hl]; simp, hb, hr', e⟩
theorem entries_ok {r : List Dt} (h : Rw r) {n : Nat} (hn : n ≤ 1000) {m : Int} (h0 : 0 < m) (h1 : m < 1073741824) :
    ∃ (xs : List Int) (r' : List Dt), xs.length = n ∧ (∀ x ∈ xs, 0 ≤ x ∧ x < m) ∧ Rw r' ∧ fn__law_entries [.arg (.lst r), .val (.int n), .val (.int m)] = .ok (tI xs) [.arg (.lst r'), .val (.int n), .val (.int m)] := by
  obtain ⟨xs, r', a, b, c, e⟩ := c1_entries h hn h0 h1
  refine ⟨xs, r', a, b, c, ?_⟩
  unfold fn__law_entries bd__law_entries
  simp (implicitDefEqProofs := false) [bind_ok, bind_exn, bind_stuck, bnd_ap, ret_ap, bad_ap, opt_some, opt_none, op2_ap, op1_ap, var_ap, varK_val, varK_own, dAdd_int, dSub_int, dLt_int, dLe_int, dGt_int, dGe_int, dFdv_int, dMod_int, dMulR, dMulL, dNeg_int, pow18, asB_ap, bK_b, dIs_none, dIsN_none, dIs_b, dIsN_b, isNone, dEq_ii, dNe_ii, dEq_bb, dNe_bb, chain_ap, chK_b, andM_ap, orM_ap, notM_ap, andV_ap, orV_ap, notV_ap, iteV_ap, consA_ap, tupM_ap, lstM_ap, sz0, sz1, sz2, sz3, sz4, sz5, frz_ap, frK_l, dIx_l, dIx_t, dIx_s, oIx_ap, isO_own, isO_arg, oK_own, oK_arg, partM_ap, pK_i, sliceM_ap, dSl_l, dSl_t, callB_ap, dLen_l, dLen_t, dLen_s, oLen_ap, oLK_own, oLK_arg, dInt_i, dTup_l, dTup_t, dAbs_i, lisM_ap, liK_l, liK_t, callM_ap, call_ok, getO_ap, gO_own, gO_arg, putR_ap, puK_own, puK_arg, fcallR_ok, cRK_s, callR_ap, putS_ap, pS_none, pS_val, pS_own, seqM_ap, seq_nx, seq_rt, seq_bk, seq_ct, done_ap, exprM_ap, retM_ap, ifM_ap, setM_ap, setO_ap, asg_ok, asgM_ap, xE_ap, xO_ap, auI_i, pxN_s, pxK_s, pxG_s, putIx_ap, apK_s, isLs_s, appM_ap, items_l, items_t, items_s, iterM_ap, rngM_ap, enO_ap, zO_ap, noX_ap, nox_ok, asT_ap, tK_b, tK_n, tK_i, tK_l, tK_t, tupG_t, consG_c, nilG_n, yes_ap, fnD_ap, fin_nx, fin_rt, backs_n, backs_c, pick_v, pick_a, isiM_ap, isi2M_ap, typM_ap, isDt_n, isDt_i, isDt_b, isDt_s, isDt_t, isDt_l, e]
theorem pick_ok {r : List Dt} (h : Rw r) {ts : List Int} (h0 : 0 < ts.length) (h1 : ts.length ≤ 1000) :
    ∃ (v : Int) (r' : List Dt), v ∈ ts ∧ Rw r' ∧ fn__law_pick [.arg (.lst r), .val (.list (iL ts))] = .ok (.int v) [.arg (.lst r'), .val (.list (iL ts))] := by
  obtain ⟨v, r', v0, v1, hr, e⟩ := ltaken_ok h (m := (ts.length : Int)) (by omega) (by omega)
  have hl : v.toNat < ts.length := by omega
  have g : atI (iL ts) v = some (.int ts[v.toNat]) := by
    have := atI_iL hl
    rwa [Int.toNat_of_nonneg v0] at this
  refine ⟨ts[v.toNat], r', List.getElem_mem hl, hr, ?_⟩
  unfold fn__law_pick bd__law_pick
  simp (implicitDefEqProofs := false) [bind_ok, bind_exn, bind_stuck, bnd_ap, ret_ap, bad_ap, opt_some, opt_none, op2_ap, op1_ap, var_ap, varK_val, varK_own, dAdd_int, dSub_int, dLt_int, dLe_int, dGt_int, dGe_int, dFdv_int, dMod_int, dMulR, dMulL, dNeg_int, pow18, asB_ap, bK_b, dIs_none, dIsN_none, dIs_b, dIsN_b, isNone, dEq_ii, dNe_ii, dEq_bb, dNe_bb, chain_ap, chK_b, andM_ap, orM_ap, notM_ap, andV_ap, orV_ap, notV_ap, iteV_ap, consA_ap, tupM_ap, lstM_ap, sz0, sz1, sz2, sz3, sz4, sz5, frz_ap, frK_l, dIx_l, dIx_t, dIx_s, oIx_ap, isO_own, isO_arg, oK_own, oK_arg, partM_ap, pK_i, sliceM_ap, dSl_l, dSl_t, callB_ap, dLen_l, dLen_t, dLen_s, oLen_ap, oLK_own, oLK_arg, dInt_i, dTup_l, dTup_t, dAbs_i, lisM_ap, liK_l, liK_t, callM_ap, call_ok, getO_ap, gO_own, gO_arg, putR_ap, puK_own, puK_arg, fcallR_ok, cRK_s, callR_ap, putS_ap, pS_none, pS_val, pS_own, seqM_ap, seq_nx, seq_rt, seq_bk, seq_ct, done_ap, exprM_ap, retM_ap, ifM_ap, setM_ap, setO_ap, asg_ok, asgM_ap, xE_ap, xO_ap, auI_i, pxN_s, pxK_s, pxG_s, putIx_ap, apK_s, isLs_s, appM_ap, items_l, items_t, items_s, iterM_ap, rngM_ap, enO_ap, zO_ap, noX_ap, nox_ok, asT_ap, tK_b, tK_n, tK_i, tK_l, tK_t, tupG_t, consG_c, nilG_n, yes_ap, fnD_ap, fin_nx, fin_rt, backs_n, backs_c, pick_v, pick_a, isiM_ap, isi2M_ap, typM_ap, isDt_n, isDt_i, isDt_b, isDt_s, isDt_t, isDt_l, e, g]
def Ent (xs : List Int) (n : Nat) : Prop := xs.length = n ∧ ∀ x ∈ xs, 0 ≤ x ∧ x ≤ 999
/-- a problem of n periods -/
def IsP (p : Dt) (n : Nat) (d s u h : List Int) : Prop := p = .tuple [tI d, tI s, tI u, tI h] ∧ Ent d n ∧ Ent s n ∧ Ent u n ∧ Ent h n
end DN

namespace DN
open PySem PySem.Spec L2

theorem sum_set : ∀ (f : List Int) (s : Nat) (p : Int) (h : s < f.length) (k : Nat), ((f.set s (f[s] + p)).take k).sum = (f.take k).sum + if s < k then p else 0
  | [], s, p, h, k => by simp at h
  | x :: f, 0, p, h, 0 => by simp
  | x :: f, 0, p, h, k + 1 => by simp; omega
  | x :: f, s + 1, p, h, 0 => by simp
  | x :: f, s + 1, p, h, k + 1 => by
    have ih := sum_set f s p (by simpa using h) k
    simp only [List.set_cons_succ, List.take_succ_cons, List.sum_cons, List.getElem_cons_succ, ih]
    simp only [Nat.add_lt_add_iff_right]
    omega
/-- what the plan's loop keeps: i periods done, of period i the amount z given -/
structure PlanAt (d f : List Int) (n i : Nat) (z : Int) : Prop where
  len : f.length = n
  pos : ∀ x ∈ f, 0 ≤ x
  cov : ∀ k, (d.take (min k i)).sum + (if i < k then z else 0) ≤ (f.take k).sum
  tot : f.sum = (d.take i).sum + z
theorem PlanAt.put {d f : List Int} {n i : Nat} {z p : Int} (h : PlanAt d f n i z) (p0 : 0 ≤ p) {s : Nat} (hs : s ≤ i) (hl : s < f.length) : PlanAt d (f.set s (f[s] + p)) n i (z + p) := by
  have g := sum_set f s p hl
  refine ⟨by rw [List.length_set]; exact h.len, fun x hx => ?_, fun k => ?_, ?_⟩
  · rcases List.mem_or_eq_of_mem_set hx with q | q
    · exact h.pos x q
    · rw [q]
      have := h.pos _ (List.getElem_mem hl)
      omega
  · rw [g k]
    have := h.cov k
    by_cases c : i < k
    · rw [if_pos c] at this ⊢
      rw [if_pos (show s < k by omega)]
      omega
    · rw [if_neg c] at this ⊢
      by_cases c2 : s < k
      · rw [if_pos c2]; omega
      · rw [if_neg c2]; omega
  · have := g f.length
    rw [show (f.set s (f[s] + p)).take f.length = f.set s (f[s] + p) by rw [show f.length = (f.set s (f[s] + p)).length by rw [List.length_set]]; exact List.take_length, List.take_length, if_pos hl] at this
    rw [this, h.tot]
    omega
theorem sum_take_one {d : List Int} {i : Nat} (h : i < d.length) : (d.take (i + 1)).sum = (d.take i).sum + d[i] := by
  rw [sum_take (List.getElem?_eq_getElem h)]
theorem PlanAt.next {d f : List Int} {n i : Nat} (hd : i < d.length) (h : PlanAt d f n i d[i]) : PlanAt d f n (i + 1) 0 := by
  refine ⟨h.len, h.pos, fun k => ?_, ?_⟩
  · have := h.cov k
    by_cases c : i < k
    · rw [if_pos c] at this
      rw [show min k (i + 1) = i + 1 by omega, sum_take_one hd]
      rw [show min k i = i by omega] at this
      have e : (if i + 1 < k then (0 : Int) else 0) = 0 := by split <;> rfl
      rw [e]; omega
    · rw [if_neg c] at this
      rw [if_neg (by omega), show min k (i + 1) = min k i by omega]
      exact this
  · rw [h.tot, sum_take_one hd]; omega
theorem iL_len (f : List Int) : (iL f).length = f.length := List.length_map ..

/-- a plan of a problem whose demands are d -/
structure IsPlan (d f : List Int) : Prop where
  len : f.length = d.length
  pos : ∀ x ∈ f, 0 ≤ x
  cov : ∀ k, (d.take k).sum ≤ (f.take k).sum
  tot : f.sum = d.sum
end DN

namespace DN
open PySem PySem.Spec L2

theorem kind_int {i : Int} : kindOf (.int i) = "int" := (rfl)
theorem kind_bool {i : Bool} : kindOf (.bool i) = "bool" := (rfl)
theorem kind_tup {ds : List Dt} : kindOf (.tuple ds) = "tuple" := (rfl)
theorem kind_lst {ds : List Dt} : kindOf (.list ds) = "list" := (rfl)
theorem kind_non : kindOf .none = "NoneType" := (rfl)
theorem kit_tt : kitB "tuple" "tuple" = some true := by decide +kernel
theorem kit_tl : kitB "tuple" "list" = some false := by decide +kernel
theorem kit_ll : kitB "list" "list" = some true := by decide +kernel
theorem kit_lt : kitB "list" "tuple" = some false := by decide +kernel
theorem kit_ii : kitB "int" "int" = some true := by decide +kernel
theorem kit_it : kitB "int" "tuple" = some false := by decide +kernel
theorem kit_il : kitB "int" "list" = some false := by decide +kernel
theorem kit_is : kitB "int" "str" = some false := by decide +kernel
theorem kit_ib : kitB "int" "bool" = some false := by decide +kernel

section
variable {p : Dt} {n : Nat} {d s u h f : List Int}
end
end DN

namespace DN
open PySem PySem.Spec L2

section
variable {p : Dt} {n : Nat} {d s u h f : List Int}
end
end DN

namespace DN
open PySem PySem.Spec L2

theorem dEq_nil : dEq (.list []) (.list []) = some (.bool true) := by rfl
theorem alike_int (k : Nat) (i : Int) : fn__law_alike (k + 1) [.val (.int i), .val (.int i)] = .ok (.bool true) [.val (.int i), .val (.int i)] := by
  simp (implicitDefEqProofs := false) [bind_ok, bind_exn, bind_stuck, bnd_ap, ret_ap, bad_ap, opt_some, opt_none, op2_ap, op1_ap, var_ap, varK_val, varK_own, dAdd_int, dSub_int, dLt_int, dLe_int, dGt_int, dGe_int, dFdv_int, dMod_int, dMulR, dMulL, dNeg_int, pow18, asB_ap, bK_b, dIs_none, dIsN_none, dIs_b, dIsN_b, isNone, dEq_ii, dNe_ii, dEq_bb, dNe_bb, chain_ap, chK_b, andM_ap, orM_ap, notM_ap, andV_ap, orV_ap, notV_ap, iteV_ap, consA_ap, tupM_ap, lstM_ap, sz0, sz1, sz2, sz3, sz4, sz5, frz_ap, frK_l, dIx_l, dIx_t, dIx_s, oIx_ap, isO_own, isO_arg, oK_own, oK_arg, partM_ap, pK_i, sliceM_ap, dSl_l, dSl_t, callB_ap, dLen_l, dLen_t, dLen_s, oLen_ap, oLK_own, oLK_arg, dInt_i, dTup_l, dTup_t, dAbs_i, lisM_ap, liK_l, liK_t, callM_ap, call_ok, getO_ap, gO_own, gO_arg, putR_ap, puK_own, puK_arg, fcallR_ok, cRK_s, callR_ap, putS_ap, pS_none, pS_val, pS_own, seqM_ap, seq_nx, seq_rt, seq_bk, seq_ct, done_ap, exprM_ap, retM_ap, ifM_ap, setM_ap, setO_ap, asg_ok, asgM_ap, xE_ap, xO_ap, auI_i, pxN_s, pxK_s, pxG_s, putIx_ap, apK_s, isLs_s, appM_ap, items_l, items_t, items_s, iterM_ap, rngM_ap, enO_ap, zO_ap, noX_ap, nox_ok, asT_ap, tK_b, tK_n, tK_i, tK_l, tK_t, tupG_t, consG_c, nilG_n, yes_ap, fnD_ap, fin_nx, fin_rt, backs_n, backs_c, pick_v, pick_a, isiM_ap, isi2M_ap, typM_ap, isDt_n, isDt_i, isDt_b, isDt_s, isDt_t, isDt_l, kind_int, kind_bool, kind_tup, kind_lst, kind_non, kit_tt, kit_tl, kit_ll, kit_lt, kit_ii, kit_it, kit_il, kit_is, kit_ib, fn__law_alike]
abbrev at0 (f : List Int) (i : Nat) : Int := f.getD i 0
theorem at0_eq {f : List Int} {i : Nat} (h : i < f.length) : f[i] = at0 f i := by
  unfold at0
  rw [List.getD_eq_getElem?_getD, List.getElem?_eq_getElem h]
  rfl
theorem atI_at0 {f : List Int} {i : Nat} (h : i < f.length) : atI (iL f) (i : Int) = some (.int (at0 f i)) := by
  rw [atI_iL h, at0_eq h]
def spN (f : List Int) : List Nat := (List.range f.length).filter fun i => decide (0 < at0 f i)
section
variable {p : Dt} {n : Nat} {d s u h f : List Int}
end
end DN

namespace DN
open PySem PySem.Spec L2
theorem fn_of {fn : Fn} {P : List Dt → M Unit Dt} (D : FnJ fn P) {ds : List Dt} {d : Dt} (h : P ds = pr d) : fn (ds.map .val) = .ok d (ds.map .val) := by
  have z := D ds
  rw [h] at z
  exact z
section
variable {p : Dt} {n : Nat} {d s u h f : List Int}
end
end DN

namespace DN
open PySem PySem.Spec L2
section
variable {p : Dt} {n : Nat} {d s u h f : List Int}
def keptS (u h : List Int) (a b : Nat) : Int := at0 u a + (cutL h (some (a : Int)) (some (b : Int))).sum
end
end DN

namespace DN
def sumF (g : Nat → Int) : Nat → Int
  | 0 => 0
  | n + 1 => sumF g n + g n
/-- what a problem asks: demands, setups, units, holdings by period -/
structure Pr where
  d : Nat → Int
  s : Nat → Int
  u : Nat → Int
  h : Nat → Int
structure Pr.Ok (p : Pr) : Prop where
  d0 : ∀ i, 0 ≤ p.d i
  s0 : ∀ i, 0 ≤ p.s i
  u0 : ∀ i, 0 ≤ p.u i
  h0 : ∀ i, 0 ≤ p.h i
def Pr.amt (p : Pr) (a : Nat) : Nat → Int
  | 0 => 0
  | m + 1 => p.amt a m + p.d (a + m)
def Pr.each (p : Pr) (a : Nat) : Nat → Int
  | 0 => p.u a
  | m + 1 => p.each a m + p.h (a + m)
def Pr.paid (p : Pr) (a : Nat) : Nat → Int
  | 0 => p.s a
  | m + 1 => p.paid a m + p.d (a + m) * p.each a m
def Pr.lot (p : Pr) (a m : Nat) : Int := if 0 < p.amt a m then p.paid a m else 0
/-- a plan's cost over the first k periods -/
def Pr.cost (p : Pr) (f : Nat → Int) (k : Nat) : Int := sumF (fun i => (if 0 < f i then p.s i else 0) + p.u i * f i + p.h i * (sumF f (i + 1) - sumF p.d (i + 1))) k
/-- least costs by their defining rows -/
structure Least (p : Pr) (n : Nat) (C : Nat → Int) : Prop where
  zero : C 0 = 0
  le : ∀ a e, a < e → e ≤ n → C e ≤ C a + p.lot a (e - a)
  at_ : ∀ e, 0 < e → e ≤ n → ∃ a, a < e ∧ C e = C a + p.lot a (e - a)
section
variable {p : Pr} {n : Nat} {C : Nat → Int}
theorem amt_sum (a : Nat) : ∀ m, sumF p.d (a + m) = sumF p.d a + p.amt a m
  | 0 => by show sumF p.d a = sumF p.d a + 0; omega
  | m + 1 => by
    show sumF p.d (a + m) + p.d (a + m) = sumF p.d a + (p.amt a m + p.d (a + m))
    rw [amt_sum a m]; omega
/-- a plan that costs the least -/
structure Fits (p : Pr) (f : Nat → Int) (e : Nat) : Prop where
  pos : ∀ i, 0 ≤ f i
  off : ∀ i, e ≤ i → f i = 0
  cov : ∀ k, k ≤ e → sumF p.d k ≤ sumF f k
  tot : sumF f e = sumF p.d e
end
end DN

namespace DN
open PySem PySem.Spec L2
def prOf (d s u h : List Int) : Pr := ⟨at0 d, at0 s, at0 u, at0 h⟩
theorem range2 {a b : Nat} (hb : b ≤ 1000) (h : a ≤ b) : dR2 [.int a, .int b] = some ((List.range (b - a)).map fun (i : Nat) => PyData.int ((a + i : Nat) : Int)) := by
  have h1 : (b : Int) < 2 ^ 62 := by omega
  have h0 : -(2 ^ 62) ≤ (b : Int) := by omega
  have h2 : (a : Int) < 2 ^ 62 := by omega
  have h3 : -(2 ^ 62) ≤ (a : Int) := by omega
  unfold dR2
  simp only [h0, h1, h2, h3, decide_true, Bool.and_self, if_true, rangeD]
  rw [show ((b : Int) - (a : Int)).toNat = b - a by omega]
  rfl
section
variable {P : Dt} {n : Nat} {d s u h : List Int}
end
end DN

namespace DN
open PySem PySem.Spec L2
section
variable {P : Dt} {n : Nat} {d s u h : List Int}
end
end DN

namespace DN
open PySem PySem.Spec L2
theorem take_sumF (f : List Int) : ∀ k, k ≤ f.length → (f.take k).sum = sumF (at0 f) k
  | 0, _ => by simp [sumF]
  | k + 1, h => by
    rw [sum_take_one h, take_sumF f k (by omega), at0_eq h]; rfl
section
variable {P : Dt} {n : Nat} {d s u h f : List Int}
end
def lo (need : Int) (t : List Int) : Int := if need - t.sum > 0 then need - t.sum else 0
/-- the first k periods of plans -/
structure Part (d : List Int) (tot : Int) (k : Nat) (t : List Int) : Prop where
  len : t.length = k
  pos : ∀ x ∈ t, 0 ≤ x
  cov : ∀ j, j ≤ k → (d.take j).sum ≤ (t.take j).sum
  top : t.sum ≤ tot
end DN

namespace DN
open PySem PySem.Spec L2
theorem cut_take (xs : List Int) (k : Nat) : cutL (iL xs) none (some (k : Int)) = iL (xs.take k) := by
  unfold cutL
  rw [iL_len, HT.sIx_none, HT.sIx_nat, List.drop_zero, Nat.sub_zero, iL, iL, List.map_take]
  by_cases h : k ≤ xs.length
  · rw [Nat.min_eq_left h]
  · rw [Nat.min_eq_right (by omega), List.take_of_length_le (by simp), List.take_of_length_le (by simp; omega)]
section
variable {s0 s1 s2 s3 s4 s5 s6 s7 s8 s9 : Option Sv}
end
end DN

namespace DN
section
variable {p : Pr} {n : Nat} {C R : Nat → Int}
/-- rest costs by their defining rows -/
structure Rest (p : Pr) (n : Nat) (R : Nat → Int) : Prop where
  zero : R n = 0
  le : ∀ a e, a < e → e ≤ n → R a ≤ p.lot a (e - a) + R e
  at_ : ∀ a, a < n → ∃ e, a < e ∧ e ≤ n ∧ p.lot a (e - a) + R e = R a
end
end DN

namespace DN
open PySem PySem.Spec L2
section
variable {p : Pr} {n : Nat}
end
end DN

namespace DN
open PySem PySem.Spec L2
section
variable {p : Pr} {n : Nat} {d : List Int} {T : List Dt} {RL : List Int} {R : Nat → Int}
end
theorem dMulT_z {k : Int} (h0 : -1000 ≤ k) (h1 : k ≤ 1000) {x : Int} : dMulT (.tuple [.int x]) (.int k) = some (.tuple (List.replicate k.toNat [PyData.int x]).flatten) := by
  unfold dMulT
  simp [h0, h1]
theorem flatten_repx (n : Nat) (x : Int) : (List.replicate n [PyData.int x]).flatten = iL (List.replicate n x) := by
  induction n with
  | zero => rfl
  | succ n ih => rw [List.replicate_succ, List.flatten_cons, ih]; rfl
end DN

namespace DN
open PySem PySem.Spec L2
section
variable {P : Dt} {n : Nat} {d s u h : List Int}
end
end DN

namespace DN
open PySem PySem.Spec L2
/-- all plans from each period on, from the end: what stands when k periods are done -/
def one (a : Nat) (T : List (List (List Int))) (x : Int × Nat) : List (List Int) := (T.getD x.2 []).map fun t => (x.1 :: List.replicate (x.2 - a - 1) 0) ++ t
end DN

namespace DN
open PySem PySem.Spec L2
end DN

namespace DN
open PySem PySem.Spec L2
section
variable {P : Dt} {n : Nat} {d s u h : List Int}
end
end DN

namespace DN
/-- every period asks the same -/
structure Lev (p : Pr) (n : Nat) (D S U H : Int) : Prop where
  d : ∀ i, i < n → p.d i = D
  s : ∀ i, i < n → p.s i = S
  u : ∀ i, i < n → p.u i = U
  h : ∀ i, i < n → p.h i = H
section
variable {p : Pr} {n : Nat} {D S U H : Int} {C : Nat → Int}
end
end DN

namespace DN
open PySem PySem.Spec L2
section
variable {S R N L6 : Option Sv}
end
end DN

namespace DN
open PySem PySem.Spec L2
end DN

namespace DN
open PySem PySem.Spec L2
section
variable {S0 R P s5 s6 s7 : Option Sv} {n : Nat} {D S U H : Int}
end
end DN

namespace DN
open PySem PySem.Spec L2
theorem ent_rep {n : Nat} {x : Int} (h0 : 0 ≤ x) (h1 : x ≤ 999) : Ent (List.replicate n x) n := ⟨by simp, fun y hy => by rw [List.eq_of_mem_replicate hy]; exact ⟨h0, h1⟩⟩
section
variable {p : Pr} {n : Nat} {C : Nat → Int}
end
end DN

namespace DN
open PySem PySem.Spec L2
inductive Gr (n : Nat) (st : Nat → List (Int × Nat)) : List Int → List Int → Prop
  | done {f : List Int} : f.length = n → Gr n st f f
  | step {f F : List Int} {x : Int × Nat} {xs : List (Int × Nat)} : f.length < n → st f.length = x :: xs → Gr n st (f ++ (x.1 :: List.replicate (x.2 - f.length - 1) 0)) F → Gr n st f F
theorem Gr.one {n : Nat} {st st' : Nat → List (Int × Nat)} (e : ∀ a, a < n → st a = st' a) {f F F' : List Int} (h : Gr n st f F) (h' : Gr n st' f F') : F = F' := by
  induction h generalizing F' with
  | done hl =>
    cases h' with
    | done _ => rfl
    | step hl' _ _ => omega
  | step hl hs _ ih =>
    cases h' with
    | done hl' => omega
    | step hl' hs' g =>
      have := e _ hl
      rw [hs, hs'] at this
      cases this
      exact ih g
section
variable {P : Dt} {n : Nat} {d s u h : List Int}
end
section
variable {p p' : Pr} {n : Nat} {C C' R R' : Nat → Int}
end
end DN

namespace DN
open PySem PySem.Spec L2
section
variable {p p' : Pr} {n : Nat} {C R : Nat → Int}
structure Dearer (p p' : Pr) (n : Nat) (M : Int) : Prop where
  d : ∀ i, p'.d i = p.d i
  s : ∀ i, p'.s i = p.s i
  u : ∀ i, i < n → p'.u i = p.u i + M
  h : ∀ i, p'.h i = p.h i
structure Scaled (p p' : Pr) (k : Int) : Prop where
  d : ∀ i, p'.d i = p.d i
  s : ∀ i, p'.s i = p.s i * k
  u : ∀ i, p'.u i = p.u i * k
  h : ∀ i, p'.h i = p.h i * k
structure Twice (p p' : Pr) : Prop where
  d : ∀ i, p'.d i = p.d i * 2
  s : ∀ i, p'.s i = p.s i
  u : ∀ i, p'.u i = p.u i
  h : ∀ i, p'.h i = p.h i
end
end DN

namespace DN
open PySem PySem.Spec L2
inductive Sub : List Nat → Nat → Prop
  | nil (k : Nat) : Sub [] k
  | snoc {t : List Nat} {a k : Nat} : Sub t a → a < k → Sub (t ++ [a]) k
theorem Sub.mono {t : List Nat} {a k : Nat} (h : Sub t a) (hk : a ≤ k) : Sub t k := by
  cases h with
  | nil => exact .nil k
  | snoc h1 h2 => exact .snoc h1 (by omega)
theorem Sub.lt {t : List Nat} {k : Nat} (h : Sub t k) : ∀ i ∈ t, i < k := by
  induction h with
  | nil => intro i hi; simp at hi
  | @snoc t a k h1 h2 ih =>
    intro i hi
    rcases List.mem_append.mp hi with hi | hi
    · have := ih i hi; omega
    · rw [List.mem_singleton] at hi; omega
theorem Sub.len {t : List Nat} {k : Nat} (h : Sub t k) : t.length ≤ k := by
  induction h with
  | nil => exact Nat.zero_le _
  | @snoc t a k h1 h2 ih => rw [List.length_append]; simp; omega
def sts : Nat → List (List Nat)
  | 0 => [[]]
  | k + 1 => sts k ++ (sts k).map fun t => t ++ [k]
section
variable {p : Pr} {N n : Nat} {C : Nat → Int}
end
theorem cut_two {α : Type} {xs : List α} {a e : Nat} (ha : a ≤ xs.length) (he : e ≤ xs.length) : cutL xs (some (a : Int)) (some (e : Int)) = (xs.drop a).take (e - a) := by
  unfold cutL
  rw [HT.sIx_nat, HT.sIx_nat, Nat.min_eq_left ha, Nat.min_eq_left he]
theorem sum_cut (d : List Int) (a m : Nat) (h : a + m ≤ d.length) (p : Pr) (hp : ∀ i, p.d i = at0 d i) : ((d.drop a).take m).sum = p.amt a m := by
  have e0 : sumF p.d = sumF (at0 d) := by rw [show p.d = at0 d from funext hp]
  have h1 := amt_sum (p := p) a m
  have h2 := take_sumF d (a + m) h
  have h3 := take_sumF d a (by omega)
  have h4 : d.take (a + m) = d.take a ++ (d.drop a).take m := List.take_add ..
  rw [e0] at h1
  rw [h4, List.sum_append] at h2
  omega
section
variable {P : Dt} {n : Nat} {d s u h : List Int}
end
end DN

namespace DN
open PySem PySem.Spec L2
section
variable {P : Dt} {n : Nat} {d s u h : List Int}
/-- some lot would come too late -/
def late (d : List Int) (n : Nat) (t : List Nat) : Prop := 0 < sumF (at0 d) (t.headD n)
instance (d : List Int) (n : Nat) (t : List Nat) : Decidable (late d n t) := inferInstanceAs (Decidable (0 < _))
end
end DN

namespace DN
open PySem PySem.Spec L2
theorem prow_ok {c : M (List Dt) Dt} {r r' : List Dt} {d : Dt} (h : c r = .ok d r') : prow c r = pr d := by
  funext t
  unfold prow
  rw [h]; rfl
theorem taken_r {r : List Dt} (h : Rw r) {m : Int} (h0 : 0 < m) (h1 : m < 1073741824) : ∃ (v : Int) (r' : List Dt), 0 ≤ v ∧ v < m ∧ Rw r' ∧ ofFnR fn__law_taken [.int m] r = .ok (.int v) r' := by
  obtain ⟨v, r', a, b, c, e⟩ := ltaken_ok h h0 h1
  exact ⟨v, r', a, b, c, ofFnR_ok (ds := [.int m]) e⟩
theorem takenN_r {r : List Dt} (h : Rw r) {m : Nat} (h0 : 0 < m) (h1 : m < 1073741824) : ∃ (v : Nat) (r' : List Dt), v < m ∧ Rw r' ∧ ofFnR fn__law_taken [.int (m : Int)] r = .ok (.int (v : Int)) r' := by
  obtain ⟨v, r', a, b, c, e⟩ := taken_r h (m := (m : Int)) (by omega) (by omega)
  refine ⟨v.toNat, r', by omega, c, ?_⟩
  rw [Int.toNat_of_nonneg a]; exact e
theorem rw4 (ns : List Int) (x : Int) : Rw [scr ns, .int 0, .int x, .int 0] := ⟨ns, 0, x, 0, rfl⟩
theorem true_of {fn : Fn} {P : List Dt → M Unit Dt} (D : FnJ fn P) {d : Dt} (h : P [d] = pr (.bool true)) : (fn [.val d]).isTrue := j_true D (by rw [h]; rfl)
end DN

namespace DN
open PySem PySem.Spec L2
/-- p' is p from period b on, n' periods of it -/
structure Shift (p p' : Pr) (b n' : Nat) : Prop where
  d : ∀ i, i < n' → p'.d i = p.d (i + b)
  s : ∀ i, i < n' → p'.s i = p.s (i + b)
  u : ∀ i, i < n' → p'.u i = p.u (i + b)
  h : ∀ i, i < n' → p'.h i = p.h (i + b)
section
variable {p p' : Pr} {b n n' : Nat} {C R : Nat → Int}
end
section
variable {P : Dt} {n : Nat} {d s u h : List Int}
end
end DN

namespace DN
open PySem PySem.Spec L2
section
variable {p p' : Pr} {b n n' : Nat} {C R : Nat → Int}
/-- p from period b on -/
def Pr.from (p : Pr) (b : Nat) : Pr := ⟨fun i => p.d (i + b), fun i => p.s (i + b), fun i => p.u (i + b), fun i => p.h (i + b)⟩
end
end DN

namespace DN
open PySem PySem.Spec L2
end DN

namespace DN
open PySem PySem.Spec L2
def Alk : Nat → Dt → Prop
  | 0, _ => False
  | _ + 1, .int _ => True
  | _ + 1, .bool _ => True
  | _ + 1, .none => True
  | k + 1, .tuple ds => ds.length ≤ 1000 ∧ ∀ d ∈ ds, Alk k d
  | k + 1, .list ds => ds.length ≤ 1000 ∧ ∀ d ∈ ds, Alk k d
  | _, _ => False
theorem kit_bi : kitB "bool" "int" = some true := by decide +kernel
theorem kit_bt : kitB "bool" "tuple" = some false := by decide +kernel
theorem kit_bl : kitB "bool" "list" = some false := by decide +kernel
theorem kit_bs : kitB "bool" "str" = some false := by decide +kernel
theorem kit_bb : kitB "bool" "bool" = some true := by decide +kernel
theorem kit_nt : kitB "NoneType" "tuple" = some false := by decide +kernel
theorem kit_nl : kitB "NoneType" "list" = some false := by decide +kernel
theorem kit_ns : kitB "NoneType" "str" = some false := by decide +kernel
theorem kit_ni : kitB "NoneType" "int" = some false := by decide +kernel
theorem kit_nb : kitB "NoneType" "bool" = some false := by decide +kernel
theorem alk_seq {k : Nat} {T : Dt} {ds : List Dt} (hT : T = .tuple ds ∨ T = .list ds) (hl : ds.length ≤ 1000) (hf : ∀ d ∈ ds, fn__law_alike k [.val d, .val d] = .ok (.bool true) [.val d, .val d]) : fn__law_alike (k + 1) [.val T, .val T] = .ok (.bool true) [.val T, .val T] := by
  have e : c1__law_alike (fn__law_alike k) [some (.val T), some (.val T), none] = .ok (.lst []) [some (.val T), some (.val T), none] := by
    generalize fn__law_alike k = F at hf
    have e1 := compM_map (it := (rngM dR1 (consA (callB dLen (consA (var 1) (ret []))) (ret [])))) (g := (fun d => putS 2 (.val d))) (p := (notM (asT (callM F (consA (op2 dIx (var 0) (var 2)) (consA (op2 dIx (var 1) (var 2)) (ret []))))))) (f := var 2) (vs := [2]) (ρ := [some (.val T), some (.val T), none]) (ρ0 := [some (.val T), some (.val T), none])
      (fun (i : Nat) => PyData.int i) (fun _ => false) (fun _ => .none) (List.range ds.length) (by
        have := range0 hl
        rcases hT with rfl | rfl
        · simp (implicitDefEqProofs := false) [bind_ok, bind_exn, bind_stuck, bnd_ap, ret_ap, bad_ap, opt_some, opt_none, op2_ap, op1_ap, var_ap, varK_val, varK_own, dAdd_int, dSub_int, dLt_int, dLe_int, dGt_int, dGe_int, dFdv_int, dMod_int, dMulR, dMulL, dNeg_int, pow18, asB_ap, bK_b, dIs_none, dIsN_none, dIs_b, dIsN_b, isNone, dEq_ii, dNe_ii, dEq_bb, dNe_bb, chain_ap, chK_b, andM_ap, orM_ap, notM_ap, andV_ap, orV_ap, notV_ap, iteV_ap, consA_ap, tupM_ap, lstM_ap, sz0, sz1, sz2, sz3, sz4, sz5, frz_ap, frK_l, dIx_l, dIx_t, dIx_s, oIx_ap, isO_own, isO_arg, oK_own, oK_arg, partM_ap, pK_i, sliceM_ap, dSl_l, dSl_t, callB_ap, dLen_l, dLen_t, dLen_s, oLen_ap, oLK_own, oLK_arg, dInt_i, dTup_l, dTup_t, dAbs_i, lisM_ap, liK_l, liK_t, callM_ap, call_ok, getO_ap, gO_own, gO_arg, putR_ap, puK_own, puK_arg, fcallR_ok, cRK_s, callR_ap, putS_ap, pS_none, pS_val, pS_own, seqM_ap, seq_nx, seq_rt, seq_bk, seq_ct, done_ap, exprM_ap, retM_ap, ifM_ap, setM_ap, setO_ap, asg_ok, asgM_ap, xE_ap, xO_ap, auI_i, pxN_s, pxK_s, pxG_s, putIx_ap, apK_s, isLs_s, appM_ap, items_l, items_t, items_s, iterM_ap, rngM_ap, enO_ap, zO_ap, noX_ap, nox_ok, asT_ap, tK_b, tK_n, tK_i, tK_l, tK_t, tupG_t, consG_c, nilG_n, yes_ap, fnD_ap, fin_nx, fin_rt, backs_n, backs_c, pick_v, pick_a, isiM_ap, isi2M_ap, typM_ap, isDt_n, isDt_i, isDt_b, isDt_s, isDt_t, isDt_l, this]
        · simp (implicitDefEqProofs := false) [bind_ok, bind_exn, bind_stuck, bnd_ap, ret_ap, bad_ap, opt_some, opt_none, op2_ap, op1_ap, var_ap, varK_val, varK_own, dAdd_int, dSub_int, dLt_int, dLe_int, dGt_int, dGe_int, dFdv_int, dMod_int, dMulR, dMulL, dNeg_int, pow18, asB_ap, bK_b, dIs_none, dIsN_none, dIs_b, dIsN_b, isNone, dEq_ii, dNe_ii, dEq_bb, dNe_bb, chain_ap, chK_b, andM_ap, orM_ap, notM_ap, andV_ap, orV_ap, notV_ap, iteV_ap, consA_ap, tupM_ap, lstM_ap, sz0, sz1, sz2, sz3, sz4, sz5, frz_ap, frK_l, dIx_l, dIx_t, dIx_s, oIx_ap, isO_own, isO_arg, oK_own, oK_arg, partM_ap, pK_i, sliceM_ap, dSl_l, dSl_t, callB_ap, dLen_l, dLen_t, dLen_s, oLen_ap, oLK_own, oLK_arg, dInt_i, dTup_l, dTup_t, dAbs_i, lisM_ap, liK_l, liK_t, callM_ap, call_ok, getO_ap, gO_own, gO_arg, putR_ap, puK_own, puK_arg, fcallR_ok, cRK_s, callR_ap, putS_ap, pS_none, pS_val, pS_own, seqM_ap, seq_nx, seq_rt, seq_bk, seq_ct, done_ap, exprM_ap, retM_ap, ifM_ap, setM_ap, setO_ap, asg_ok, asgM_ap, xE_ap, xO_ap, auI_i, pxN_s, pxK_s, pxG_s, putIx_ap, apK_s, isLs_s, appM_ap, items_l, items_t, items_s, iterM_ap, rngM_ap, enO_ap, zO_ap, noX_ap, nox_ok, asT_ap, tK_b, tK_n, tK_i, tK_l, tK_t, tupG_t, consG_c, nilG_n, yes_ap, fnD_ap, fin_nx, fin_rt, backs_n, backs_c, pick_v, pick_a, isiM_ap, isi2M_ap, typM_ap, isDt_n, isDt_i, isDt_b, isDt_s, isDt_t, isDt_l, this]) (by simpa using hl) (by rfl) (fun i hi => by
        have hi2 : i < ds.length := by simpa using hi
        have g1 : atI ds (i : Int) = some ds[i] := atI_ofNat (by rw [List.getElem?_eq_getElem hi2])
        have g2 : dIx T (.int (i : Int)) = some ds[i] := by
          rcases hT with rfl | rfl
          · exact g1
          · exact g1
        have hfi := hf ds[i] (List.getElem_mem hi2)
        refine ⟨[some (.val T), some (.val T), some (.val (.int i))], [some (.val T), some (.val T), some (.val (.int i))], rfl, ?_, rfl, fun z => by cases z⟩
        generalize ds[i] = x at g2 hfi
        simp (implicitDefEqProofs := false) [bind_ok, bind_exn, bind_stuck, bnd_ap, ret_ap, bad_ap, opt_some, opt_none, op2_ap, op1_ap, var_ap, varK_val, varK_own, dAdd_int, dSub_int, dLt_int, dLe_int, dGt_int, dGe_int, dFdv_int, dMod_int, dMulR, dMulL, dNeg_int, pow18, asB_ap, bK_b, dIs_none, dIsN_none, dIs_b, dIsN_b, isNone, dEq_ii, dNe_ii, dEq_bb, dNe_bb, chain_ap, chK_b, andM_ap, orM_ap, notM_ap, andV_ap, orV_ap, notV_ap, iteV_ap, consA_ap, tupM_ap, lstM_ap, sz0, sz1, sz2, sz3, sz4, sz5, frz_ap, frK_l, dIx_l, dIx_t, dIx_s, oIx_ap, isO_own, isO_arg, oK_own, oK_arg, partM_ap, pK_i, sliceM_ap, dSl_l, dSl_t, callB_ap, dLen_l, dLen_t, dLen_s, oLen_ap, oLK_own, oLK_arg, dInt_i, dTup_l, dTup_t, dAbs_i, lisM_ap, liK_l, liK_t, callM_ap, call_ok, getO_ap, gO_own, gO_arg, putR_ap, puK_own, puK_arg, fcallR_ok, cRK_s, callR_ap, putS_ap, pS_none, pS_val, pS_own, seqM_ap, seq_nx, seq_rt, seq_bk, seq_ct, done_ap, exprM_ap, retM_ap, ifM_ap, setM_ap, setO_ap, asg_ok, asgM_ap, xE_ap, xO_ap, auI_i, pxN_s, pxK_s, pxG_s, putIx_ap, apK_s, isLs_s, appM_ap, items_l, items_t, items_s, iterM_ap, rngM_ap, enO_ap, zO_ap, noX_ap, nox_ok, asT_ap, tK_b, tK_n, tK_i, tK_l, tK_t, tupG_t, consG_c, nilG_n, yes_ap, fnD_ap, fin_nx, fin_rt, backs_n, backs_c, pick_v, pick_a, isiM_ap, isi2M_ap, typM_ap, isDt_n, isDt_i, isDt_b, isDt_s, isDt_t, isDt_l, g2, hfi])
    have e2 : (List.range ds.length).filter (fun _ => false) = [] := by simp
    rw [e2] at e1
    exact e1
  have e2 : fn__law_alike (k + 1) = fnD 3 (seqM (ifM (asT (isi2M "tuple" "list" (var 1))) (seqM (ifM (orM (notM (asT (isi2M "tuple" "list" (var 0)))) (asB (op2 dNe (isiM "list" (var 0)) (isiM "list" (var 1))))) (retM (ret (.bool false))) done)
    (seqM (ifM (asB (op2 dNe (callB dLen (consA (var 0) (ret []))) (callB dLen (consA (var 1) (ret []))))) (retM (ret (.bool false))) done)
    (retM (op2 dEq (frz (c1__law_alike (fn__law_alike k))) (frz (lstM (ret []))))))) done)
    (seqM (ifM (orM (asB (op2 dIs (var 1) (ret .none))) (asT (isiM "str" (var 1)))) (retM (andV (op2 dEq (var 0) (var 1)) (op2 dEq (isiM "str" (var 0)) (isiM "str" (var 1))))) done)
    (retM (andV (isiM "int" (var 0)) (andV (op2 dEq (isiM "bool" (var 0)) (isiM "bool" (var 1))) (op2 dEq (var 0) (var 1))))))) := rfl
  rw [e2]
  generalize c1__law_alike (fn__law_alike k) = m at e
  rcases hT with rfl | rfl
  · simp (implicitDefEqProofs := false) [bind_ok, bind_exn, bind_stuck, bnd_ap, ret_ap, bad_ap, opt_some, opt_none, op2_ap, op1_ap, var_ap, varK_val, varK_own, dAdd_int, dSub_int, dLt_int, dLe_int, dGt_int, dGe_int, dFdv_int, dMod_int, dMulR, dMulL, dNeg_int, pow18, asB_ap, bK_b, dIs_none, dIsN_none, dIs_b, dIsN_b, isNone, dEq_ii, dNe_ii, dEq_bb, dNe_bb, chain_ap, chK_b, andM_ap, orM_ap, notM_ap, andV_ap, orV_ap, notV_ap, iteV_ap, consA_ap, tupM_ap, lstM_ap, sz0, sz1, sz2, sz3, sz4, sz5, frz_ap, frK_l, dIx_l, dIx_t, dIx_s, oIx_ap, isO_own, isO_arg, oK_own, oK_arg, partM_ap, pK_i, sliceM_ap, dSl_l, dSl_t, callB_ap, dLen_l, dLen_t, dLen_s, oLen_ap, oLK_own, oLK_arg, dInt_i, dTup_l, dTup_t, dAbs_i, lisM_ap, liK_l, liK_t, callM_ap, call_ok, getO_ap, gO_own, gO_arg, putR_ap, puK_own, puK_arg, fcallR_ok, cRK_s, callR_ap, putS_ap, pS_none, pS_val, pS_own, seqM_ap, seq_nx, seq_rt, seq_bk, seq_ct, done_ap, exprM_ap, retM_ap, ifM_ap, setM_ap, setO_ap, asg_ok, asgM_ap, xE_ap, xO_ap, auI_i, pxN_s, pxK_s, pxG_s, putIx_ap, apK_s, isLs_s, appM_ap, items_l, items_t, items_s, iterM_ap, rngM_ap, enO_ap, zO_ap, noX_ap, nox_ok, asT_ap, tK_b, tK_n, tK_i, tK_l, tK_t, tupG_t, consG_c, nilG_n, yes_ap, fnD_ap, fin_nx, fin_rt, backs_n, backs_c, pick_v, pick_a, isiM_ap, isi2M_ap, typM_ap, isDt_n, isDt_i, isDt_b, isDt_s, isDt_t, isDt_l, kind_int, kind_bool, kind_tup, kind_lst, kind_non, kit_tt, kit_tl, kit_ll, kit_lt, kit_ii, kit_it, kit_il, kit_is, kit_ib, e, dEq_nil]
  · simp (implicitDefEqProofs := false) [bind_ok, bind_exn, bind_stuck, bnd_ap, ret_ap, bad_ap, opt_some, opt_none, op2_ap, op1_ap, var_ap, varK_val, varK_own, dAdd_int, dSub_int, dLt_int, dLe_int, dGt_int, dGe_int, dFdv_int, dMod_int, dMulR, dMulL, dNeg_int, pow18, asB_ap, bK_b, dIs_none, dIsN_none, dIs_b, dIsN_b, isNone, dEq_ii, dNe_ii, dEq_bb, dNe_bb, chain_ap, chK_b, andM_ap, orM_ap, notM_ap, andV_ap, orV_ap, notV_ap, iteV_ap, consA_ap, tupM_ap, lstM_ap, sz0, sz1, sz2, sz3, sz4, sz5, frz_ap, frK_l, dIx_l, dIx_t, dIx_s, oIx_ap, isO_own, isO_arg, oK_own, oK_arg, partM_ap, pK_i, sliceM_ap, dSl_l, dSl_t, callB_ap, dLen_l, dLen_t, dLen_s, oLen_ap, oLK_own, oLK_arg, dInt_i, dTup_l, dTup_t, dAbs_i, lisM_ap, liK_l, liK_t, callM_ap, call_ok, getO_ap, gO_own, gO_arg, putR_ap, puK_own, puK_arg, fcallR_ok, cRK_s, callR_ap, putS_ap, pS_none, pS_val, pS_own, seqM_ap, seq_nx, seq_rt, seq_bk, seq_ct, done_ap, exprM_ap, retM_ap, ifM_ap, setM_ap, setO_ap, asg_ok, asgM_ap, xE_ap, xO_ap, auI_i, pxN_s, pxK_s, pxG_s, putIx_ap, apK_s, isLs_s, appM_ap, items_l, items_t, items_s, iterM_ap, rngM_ap, enO_ap, zO_ap, noX_ap, nox_ok, asT_ap, tK_b, tK_n, tK_i, tK_l, tK_t, tupG_t, consG_c, nilG_n, yes_ap, fnD_ap, fin_nx, fin_rt, backs_n, backs_c, pick_v, pick_a, isiM_ap, isi2M_ap, typM_ap, isDt_n, isDt_i, isDt_b, isDt_s, isDt_t, isDt_l, kind_int, kind_bool, kind_tup, kind_lst, kind_non, kit_tt, kit_tl, kit_ll, kit_lt, kit_ii, kit_it, kit_il, kit_is, kit_ib, e, dEq_nil]
theorem alk_ok : ∀ {k : Nat} {d : Dt}, Alk k d → fn__law_alike k [.val d, .val d] = .ok (.bool true) [.val d, .val d]
  | 0, _, h => h.elim
  | k + 1, .int i, _ => alike_int k i
  | k + 1, .bool b, _ => by simp (implicitDefEqProofs := false) [bind_ok, bind_exn, bind_stuck, bnd_ap, ret_ap, bad_ap, opt_some, opt_none, op2_ap, op1_ap, var_ap, varK_val, varK_own, dAdd_int, dSub_int, dLt_int, dLe_int, dGt_int, dGe_int, dFdv_int, dMod_int, dMulR, dMulL, dNeg_int, pow18, asB_ap, bK_b, dIs_none, dIsN_none, dIs_b, dIsN_b, isNone, dEq_ii, dNe_ii, dEq_bb, dNe_bb, chain_ap, chK_b, andM_ap, orM_ap, notM_ap, andV_ap, orV_ap, notV_ap, iteV_ap, consA_ap, tupM_ap, lstM_ap, sz0, sz1, sz2, sz3, sz4, sz5, frz_ap, frK_l, dIx_l, dIx_t, dIx_s, oIx_ap, isO_own, isO_arg, oK_own, oK_arg, partM_ap, pK_i, sliceM_ap, dSl_l, dSl_t, callB_ap, dLen_l, dLen_t, dLen_s, oLen_ap, oLK_own, oLK_arg, dInt_i, dTup_l, dTup_t, dAbs_i, lisM_ap, liK_l, liK_t, callM_ap, call_ok, getO_ap, gO_own, gO_arg, putR_ap, puK_own, puK_arg, fcallR_ok, cRK_s, callR_ap, putS_ap, pS_none, pS_val, pS_own, seqM_ap, seq_nx, seq_rt, seq_bk, seq_ct, done_ap, exprM_ap, retM_ap, ifM_ap, setM_ap, setO_ap, asg_ok, asgM_ap, xE_ap, xO_ap, auI_i, pxN_s, pxK_s, pxG_s, putIx_ap, apK_s, isLs_s, appM_ap, items_l, items_t, items_s, iterM_ap, rngM_ap, enO_ap, zO_ap, noX_ap, nox_ok, asT_ap, tK_b, tK_n, tK_i, tK_l, tK_t, tupG_t, consG_c, nilG_n, yes_ap, fnD_ap, fin_nx, fin_rt, backs_n, backs_c, pick_v, pick_a, isiM_ap, isi2M_ap, typM_ap, isDt_n, isDt_i, isDt_b, isDt_s, isDt_t, isDt_l, kind_int, kind_bool, kind_tup, kind_lst, kind_non, kit_tt, kit_tl, kit_ll, kit_lt, kit_ii, kit_it, kit_il, kit_is, kit_ib, fn__law_alike, kit_bi, kit_bt, kit_bl, kit_bs, kit_bb]
  | k + 1, .none, _ => by simp (implicitDefEqProofs := false) [bind_ok, bind_exn, bind_stuck, bnd_ap, ret_ap, bad_ap, opt_some, opt_none, op2_ap, op1_ap, var_ap, varK_val, varK_own, dAdd_int, dSub_int, dLt_int, dLe_int, dGt_int, dGe_int, dFdv_int, dMod_int, dMulR, dMulL, dNeg_int, pow18, asB_ap, bK_b, dIs_none, dIsN_none, dIs_b, dIsN_b, isNone, dEq_ii, dNe_ii, dEq_bb, dNe_bb, chain_ap, chK_b, andM_ap, orM_ap, notM_ap, andV_ap, orV_ap, notV_ap, iteV_ap, consA_ap, tupM_ap, lstM_ap, sz0, sz1, sz2, sz3, sz4, sz5, frz_ap, frK_l, dIx_l, dIx_t, dIx_s, oIx_ap, isO_own, isO_arg, oK_own, oK_arg, partM_ap, pK_i, sliceM_ap, dSl_l, dSl_t, callB_ap, dLen_l, dLen_t, dLen_s, oLen_ap, oLK_own, oLK_arg, dInt_i, dTup_l, dTup_t, dAbs_i, lisM_ap, liK_l, liK_t, callM_ap, call_ok, getO_ap, gO_own, gO_arg, putR_ap, puK_own, puK_arg, fcallR_ok, cRK_s, callR_ap, putS_ap, pS_none, pS_val, pS_own, seqM_ap, seq_nx, seq_rt, seq_bk, seq_ct, done_ap, exprM_ap, retM_ap, ifM_ap, setM_ap, setO_ap, asg_ok, asgM_ap, xE_ap, xO_ap, auI_i, pxN_s, pxK_s, pxG_s, putIx_ap, apK_s, isLs_s, appM_ap, items_l, items_t, items_s, iterM_ap, rngM_ap, enO_ap, zO_ap, noX_ap, nox_ok, asT_ap, tK_b, tK_n, tK_i, tK_l, tK_t, tupG_t, consG_c, nilG_n, yes_ap, fnD_ap, fin_nx, fin_rt, backs_n, backs_c, pick_v, pick_a, isiM_ap, isi2M_ap, typM_ap, isDt_n, isDt_i, isDt_b, isDt_s, isDt_t, isDt_l, kind_int, kind_bool, kind_tup, kind_lst, kind_non, kit_tt, kit_tl, kit_ll, kit_lt, kit_ii, kit_it, kit_il, kit_is, kit_ib, fn__law_alike, kit_nt, kit_nl, kit_ns, kit_ni, kit_nb, dEq_nn]
  | k + 1, .tuple ds, h => alk_seq (.inl rfl) h.1 fun d hd => alk_ok (h.2 d hd)
  | k + 1, .list ds, h => alk_seq (.inr rfl) h.1 fun d hd => alk_ok (h.2 d hd)
theorem alk_p {d : Dt} (h : Alk 6 d) : ofFn (fn__law_alike 6) [d, d] = pr (.bool true) := ofFn_pr (ds := [d, d]) (alk_ok h)
section
variable {p p' : Pr} {n : Nat} {C : Nat → Int}
end
section
variable {P : Dt} {n : Nat} {d s u h : List Int}
end
end DN

namespace DN
open PySem PySem.Spec L2
theorem mapP_nil {τ : Type} {q : Dt → M τ (Option Dt)} : mapP q [] = pr [] := rfl
theorem mapP_cons {τ : Type} {q : Dt → M τ (Option Dt)} {d x : Dt} {ds xs : List Dt} (h : q d = pr (some x)) (h2 : mapP q ds = pr xs) : mapP q (d :: ds) = pr (x :: xs) := by
  show pb (pnx (q d)) _ = _
  rw [h, pnx_pr, pb_pr, h2, pb_pr]; rfl
section
variable {P P' : Dt} {n n' : Nat} {d s u h d' s' u' h' : List Int}
end
end DN

namespace DN
open PySem PySem.Spec L2
section
variable {p p1 p2 : Pr} {n : Nat} {C C1 C2 : Nat → Int}
/-- no demand is more than the other's -/
structure Under (p1 p : Pr) (n : Nat) : Prop where
  d : ∀ i, i < n → p1.d i ≤ p.d i
  s : ∀ i, p1.s i = p.s i
  u : ∀ i, p1.u i = p.u i
  h : ∀ i, p1.h i = p.h i
/-- demands that are the sum of two problems' demands -/
structure Added (p p1 p2 : Pr) : Prop where
  d : ∀ i, p.d i = p1.d i + p2.d i
  s1 : ∀ i, p1.s i = p.s i
  u1 : ∀ i, p1.u i = p.u i
  h1 : ∀ i, p1.h i = p.h i
  s2 : ∀ i, p2.s i = p.s i
  u2 : ∀ i, p2.u i = p.u i
  h2 : ∀ i, p2.h i = p.h i
end
section
variable {P : Dt} {n : Nat} {d s u h : List Int}
end
end DN

namespace DN
open PySem PySem.Spec L2
section
variable {p : Pr} {n : Nat} {C : Nat → Int}
/-- what a price is above a lot's share -/
def over (p : Pr) (C : Nat → Int) (a t : Nat) : Int := C (t + 1) - C t - p.each a (t - a) * p.d t
end
section
variable {P : Dt} {n : Nat} {d s u h : List Int}
end
end DN

namespace DN
open PySem PySem.Spec L2
section
variable {P : Dt} {n : Nat} {d s u h : List Int}
end
end DN

namespace DN
open PySem PySem.Spec L2
section
variable {p : Pr} {n N : Nat} {C : Nat → Int}
end
section
variable {P : Dt} {n : Nat} {d s u h : List Int}
end
end DN

namespace DN
open PySem PySem.Spec L2
section
variable {P : Dt} {n : Nat} {d s u h : List Int}
end
theorem dMulT_n {n : Nat} {x : Int} (h : n ≤ 1000) : dMulT (.tuple [.int x]) (.int (n : Int)) = some (tI (List.replicate n x)) := by
  rw [dMulT_z (by omega) (by omega), Int.toNat_natCast, flatten_repx]
end DN

namespace DN
open PySem PySem.Spec L2
section
variable {τ σ : Type} {cc : σ → M τ Bool} {b : σ → M τ (Lp σ)}
theorem whP_to (v : Nat → σ) (k : Nat) (hgo : ∀ i, i < k → cc (v i) = pr true ∧ b (v i) = pr (.go (v (i + 1)))) (hend : cc (v k) = pr false) : ∀ m i, i + m = k → ∀ q, whP cc b (m + 1 + q) (v i) = pr (v k)
  | 0, i, hi, q => by
    have e : i = k := by omega
    subst e
    rw [show 0 + 1 + q = q + 1 by omega]
    show pb (cc (v i)) _ = _
    rw [hend, pb_pr, pif_f]
  | m + 1, i, hi, q => by
    obtain ⟨h1, h2⟩ := hgo i (by omega)
    rw [show m + 1 + 1 + q = (m + 1 + q) + 1 by omega]
    show pb (cc (v i)) _ = _
    rw [h1, pb_pr, pif_t, h2, pb_pr]
    exact whP_to v k hgo hend m (i + 1) (by omega) q
theorem whP_more : ∀ (n : Nat) (s : σ) (t : τ), whP cc b n s t ≠ .stuck → whP cc b (n + 1) s t = whP cc b n s t
  | 0, s, t, h => (h rfl).elim
  | n + 1, s, t, h => by
    show (cc s t).bind _ = (cc s t).bind _
    have h' : ((cc s t).bind fun z => pif z (pb (b s) fun r => match r with
      | .go s => whP cc b n s
      | .stop s => pr s
      | .rt _ => pz) (pr s)) ≠ .stuck := h
    cases e : cc s t with
    | stuck => rfl
    | exn x u => rfl
    | ok z u =>
      rw [e] at h'
      cases z with
      | false => rfl
      | true =>
        show (b s u).bind _ = (b s u).bind _
        have h2 : ((b s u).bind fun r => match r with
          | .go s => whP cc b n s
          | .stop s => pr s
          | .rt _ => pz) ≠ .stuck := h'
        cases e2 : b s u with
        | stuck => rfl
        | exn x w => rfl
        | ok r w =>
          rw [e2] at h2
          cases r with
          | go s2 => exact whP_more n s2 w h2
          | stop s2 => rfl
          | rt d => rfl
theorem whP_mores (n : Nat) (s : σ) (t : τ) (h : whP cc b n s t ≠ .stuck) : ∀ q, whP cc b (n + q) s t = whP cc b n s t
  | 0 => rfl
  | q + 1 => by
    have e := whP_mores n s t h q
    have := whP_more (cc := cc) (b := b) (n + q) s t (by rw [e]; exact h)
    show whP cc b (n + q + 1) s t = _
    rw [this, e]
open Classical in
/-- by a value for each turn -/
theorem whileP_to (v : Nat → σ) (k : Nat) (hgo : ∀ i, i < k → cc (v i) = pr true ∧ b (v i) = pr (.go (v (i + 1)))) (hend : cc (v k) = pr false) : whileP cc b (v 0) = pr (v k) := by
  funext t
  have key := whP_to v k hgo hend k 0 (by omega)
  have hx : ∃ n, whP cc b n (v 0) t ≠ .stuck := ⟨k + 1 + 0, by rw [key 0]; exact fun z => by cases z⟩
  show (if h : ∃ n, whP cc b n (v 0) t ≠ .stuck then whP cc b (Classical.choose h) (v 0) t else .stuck) = _
  rw [dif_pos hx]
  have hc := Classical.choose_spec hx
  generalize Classical.choose hx = n at hc ⊢
  rcases Nat.le_total n (k + 1) with z | z
  · have := whP_mores n (v 0) t hc (k + 1 - n)
    rw [show n + (k + 1 - n) = k + 1 + 0 by omega, key 0] at this
    exact this.symm
  · rw [show n = k + 1 + (n - (k + 1)) by omega, key (n - (k + 1))]
end
/-- the first place from i on where q fails, at most n -/
def scan (q : Nat → Bool) (n : Nat) : Nat → Nat → Nat
  | 0, i => i
  | m + 1, i => if q i = true then scan q n m (i + 1) else i
section
variable {P : Dt} {n : Nat} {d s u h : List Int}
/-- the next period that asks anything -/
def nxt (d : List Int) (n i : Nat) : Nat := scan (fun j => decide (at0 d j = 0)) n (n - i) i
end
end DN

namespace DN
open PySem PySem.Spec L2
abbrev sBal : Dt := .str (Str.ofString "balance")
abbrev sMeal : Dt := .str (Str.ofString "meal")
abbrev sUnit : Dt := .str (Str.ofString "unit")
/-- what keeping costs, of a lot -/
def kp (p : Pr) (a e : Nat) : Int := sumF (fun j => p.d (a + j) * (sumF p.h (a + j) - sumF p.h a)) (e - a)
inductive Rule where
  | bal
  | meal
  | unit
def Rule.D : Rule → Dt
  | .bal => sBal
  | .meal => sMeal
  | .unit => sUnit
def goes (r : Rule) (p : Pr) (a e : Nat) : Bool := match r with
  | .bal => decide (kp p a (e + 1) ≤ p.s a)
  | .meal => decide ((p.s a + kp p a (e + 1)) * ((e : Int) - (a : Int)) ≤ (p.s a + kp p a e) * ((e : Int) + 1 - (a : Int)))
  | .unit => decide ((p.s a + kp p a (e + 1)) * p.amt a (e - a) ≤ (p.s a + kp p a e) * p.amt a (e + 1 - a))
section
variable {P : Dt} {n : Nat} {d s u h : List Int}
end
end DN

namespace DN
open PySem PySem.Spec L2
/-- the end of a lot -/
def re (r : Rule) (p : Pr) (n a : Nat) : Nat := scan (goes r p a) n (n - (a + 1)) (a + 1)
/-- the starts of a rule's plan -/
def stq (r : Rule) (p : Pr) (d : List Int) (n : Nat) : Nat → Nat
  | 0 => nxt d n 0
  | k + 1 => nxt d n (re r p n (stq r p d n k))
/-- the plan, start by start -/
def rl (r : Rule) (p : Pr) (d : List Int) (n : Nat) : Nat → List Int
  | 0 => List.replicate n 0
  | k + 1 => (rl r p d n k).set (stq r p d n k) (p.amt (stq r p d n k) (re r p n (stq r p d n k) - stq r p d n k))
section
variable {P : Dt} {n : Nat} {d s u h : List Int}
end
end DN

namespace DN
open PySem PySem.Spec L2
section
variable {p : Pr} {n : Nat} {C : Nat → Int}
end

section
variable {p : Pr} {N : Nat}
end
section
variable {p : Pr} {d : List Int} {n : Nat}
end
section
variable {P : Dt} {n : Nat} {d s u h : List Int}
end
end DN

namespace DN
open PySem PySem.Spec L2
theorem pick_r {r : List Dt} (h : Rw r) {ts : List Int} (h0 : 0 < ts.length) (h1 : ts.length ≤ 1000) : ∃ (v : Int) (r' : List Dt), v ∈ ts ∧ Rw r' ∧ ofFnR fn__law_pick [.list (iL ts)] r = .ok (.int v) r' := by
  obtain ⟨v, r', a, b, e⟩ := pick_ok h h0 h1
  exact ⟨v, r', a, b, ofFnR_ok (ds := [.list (iL ts)]) e⟩
theorem pnx_ap {τ α : Type} {c : M τ α} {t : τ} : pnx c t = (c t).nx := rfl
theorem nx_ok {τ α : Type} {a : α} {t : τ} : (R.ok a t).nx = R.ok a t := rfl
end DN

namespace DN
open PySem PySem.Spec L2
section
variable {p : Pr} {n : Nat}
/-- each demand made at a period of its own -/
def asg (sg : Nat → Nat) (d : Nat → Int) : Nat → Nat → Int
  | 0, _ => 0
  | j + 1, i => if i = sg j then asg sg d j i + d j else asg sg d j i
/-- the start of some from which it costs least, the latest one -/
def bst (kc : Nat → Int) (g : Nat) (b i : Nat) : Nat := if i ≤ g ∧ kc i ≤ kc b then i else b
end
section
variable {P : Dt} {n : Nat} {d s u h f : List Int}
/-- the start that makes the demand of a period -/
def sg (u h : List Int) (t : List Nat) (g : Nat) : Nat := t.foldl (bst (fun i => keptS u h i g) g) (t.headD 0)
/-- the improved plan -/
def impL (σ : Nat → Nat) (d : List Int) (n : Nat) : Nat → List Int
  | 0 => List.replicate n 0
  | j + 1 => if 0 < at0 d j then (impL σ d n j).set (σ j) (at0 (impL σ d n j) (σ j) + at0 d j) else impL σ d n j
def imp (d u h f : List Int) (n : Nat) : List Int := impL (sg u h (spN f)) d n n
end
end DN

namespace DN
open PySem PySem.Spec L2
section
variable {P : Dt} {n : Nat} {d s u h f : List Int}
end
section
variable {p : Pr} {N K : Nat} {st : Nat → Nat}
end
end DN

namespace DN
open PySem PySem.Spec L2
section
variable {P : Dt} {n : Nat} {d s u h f : List Int}
variable (r : Rule)
end
end DN

namespace DN
open PySem PySem.Spec L2
section
variable {p : Pr} {n : Nat} {C : Nat → Int}
end
section
variable {P : Dt} {n : Nat} {d s u h : List Int}
end
section
variable {P : Dt} {n : Nat} {d s u h : List Int}
end
end DN

namespace DN
open PySem PySem.Spec L2
def Ntn (xs : List Int) (n : Nat) : Prop := xs.length = n ∧ ∀ x ∈ xs, 0 ≤ x
def IsQ (p : Dt) (n : Nat) (d s u h : List Int) : Prop := p = .tuple [tI d, tI s, tI u, tI h] ∧ Ent d n ∧ Ntn s n ∧ Ent u n ∧ Ent h n
theorem IsP.q {p : Dt} {n : Nat} {d s u h : List Int} (hP : IsP p n d s u h) : IsQ p n d s u h := ⟨hP.1, hP.2.1, ⟨hP.2.2.1.1, fun x hx => (hP.2.2.1.2 x hx).1⟩, hP.2.2.2.1, hP.2.2.2.2⟩
section
variable {P p : Dt} {n : Nat} {d s u h f : List Int}
end
end DN

namespace DN
open PySem PySem.Spec L2
section
variable {p : Pr} {n a : Nat}
/-- the problem with another setup in a period -/
def Pr.wth (p : Pr) (a : Nat) (t : Int) : Pr := ⟨p.d, fun i => if i = a then t else p.s i, p.u, p.h⟩
end
section
variable {P : Dt} {n a : Nat} {d s u h f : List Int}
/-- what a plan costs but for the setup -/
def c0 (d s u h : List Int) (n a : Nat) (f : List Int) : Int := ((prOf d s u h).wth a 0).cost (at0 f) n
end
end DN

namespace DN
open PySem PySem.Spec L2
def mxI (xs : List Int) : Int := (maxL xs).getD 0
section
variable {p : Pr} {n a : Nat}
end
section
variable {P : Dt} {n a : Nat} {d s u h f : List Int}
/-- more than any plan without the setup need cost -/
def top (d s u h : List Int) : Int := s.sum + d.sum * (mxI u + h.sum)
theorem sumF_all {xs : List Int} {n : Nat} (h : xs.length = n) : sumF (at0 xs) n = xs.sum := by
  have e := take_sumF xs n (by omega)
  rw [List.take_of_length_le (by omega)] at e
  exact e.symm
end
end DN

namespace DN
open PySem PySem.Spec L2
section
variable {P : Dt} {n a : Nat} {d s u h f : List Int}
end
end DN

namespace DN
open PySem PySem.Spec L2
section
variable {P : Dt} {n a : Nat} {d s u h f : List Int}
end
end DN

namespace DN
open PySem PySem.Spec L2
end DN

namespace DN
open PySem PySem.Spec L2
section
variable {p : Pr} {n N a : Nat} {C R : Nat → Int}
end
section
variable {P : Dt} {n a : Nat} {d s u h f : List Int}
end
end DN

namespace DN
open PySem PySem.Spec L2
section
variable {P : Dt} {n a : Nat} {d s u h f : List Int}
end
end DN

namespace DN
open PySem PySem.Spec L2
end DN

namespace DN
open PySem PySem.Spec L2
section
variable {p : Pr} {n a : Nat} {C R : Nat → Int}
end
section
variable {P : Dt} {n a : Nat} {d s u h f : List Int}
end
end DN

namespace DN
open PySem PySem.Spec L2
section
variable {P : Dt} {n a : Nat} {d s u h f : List Int}
end
end DN

namespace DN
open PySem PySem.Spec L2
section
variable {P : Dt} {n : Nat} {d s u h f : List Int}
end
end DN

namespace DN
open PySem PySem.Spec L2
section
variable {P : Dt} {n : Nat} {d s u h xs : List Int}
theorem toBools_mapF {α : Type} (f : α → Bool) (l : List α) : toBools (l.map fun i => PyData.bool (f i)) = some (l.map f) := by
  induction l with
  | nil => rfl
  | cons x l ih =>
    show (toBools (l.map fun i => PyData.bool (f i))).map _ = _
    rw [ih]; rfl
theorem dAll_map {α : Type} (f : α → Bool) (l : List α) : dAll [.list (l.map fun i => PyData.bool (f i))] = some (.bool (l.all f)) := by
  show (toBools _).map _ = _
  rw [toBools_mapF]
  simp [List.all_map]
end
end DN

namespace DN
open PySem PySem.Spec L2
section
variable {τ α β γ κ σ : Type}
theorem pb_ex {x : Exn} {k : α → M τ β} : pb (pexn x) k = pexn x := (rfl)
theorem lift0_ex {x : Exn} : lift0 (pexn x) = (pexn x : M τ α) := (rfl)
theorem praise_d {c : Str} {fs : List Str} {ca : M τ (List Dt)} : (praise c fs ca : M τ α) = pb ca fun ds => pif (decide (ds.length = fs.length) && ds.all fvD) (pexn ⟨c, (fs.zip ds).reverse⟩) pz := (rfl)
theorem ptry_go {s : σ} {ch : Exn → M τ κ} {k : σ → M τ κ} {inj : Dt → κ} : ptry (pr (.go s)) ch k inj = k s := (rfl)
theorem ptry_rt {d : Dt} {ch : Exn → M τ κ} {k : σ → M τ κ} {inj : Dt → κ} : ptry (pr (.rt d)) ch k inj = pr (inj d) := (rfl)
theorem ptry_ex {x : Exn} {ch : Exn → M τ κ} {k : σ → M τ κ} {inj : Dt → κ} : ptry (pexn x) ch k inj = ch x := (rfl)
end
theorem fn_ex {fn : Fn} {P : List Dt → M Unit Dt} (D : FnJ fn P) {ds : List Dt} {x : Exn} (h : P ds = pexn x) : fn (ds.map .val) = .exn x (ds.map .val) := by
  have z := D ds
  rw [h] at z
  exact z
theorem ofFn_ex {fn : Fn} {ds : List Dt} {x : Exn} (h : fn (ds.map .val) = .exn x (ds.map .val)) : ofFn fn ds = pexn x := by
  funext t
  exact ofFn_exn h
theorem of_ex {fn : Fn} {P : List Dt → M Unit Dt} (D : FnJ fn P) {ds : List Dt} {x : Exn} (h : P ds = pexn x) : ofFn fn ds = pexn x := ofFn_ex (fn_ex D h)
theorem of_pr {fn : Fn} {P : List Dt → M Unit Dt} (D : FnJ fn P) {ds : List Dt} {d : Dt} (h : P ds = pr d) : ofFn fn ds = pr d := ofFn_pr (fn_of D h)

def isI : Dt → Bool
  | .int _ => true
  | _ => false
def entB : Dt → Bool
  | .int i => decide (0 ≤ i) && decide (i ≤ 999)
  | _ => false
def isTp : Dt → Bool
  | .tuple _ => true
  | _ => false
def tupB (v : Dt) (m : Int) : Bool := match v with
  | .tuple ds => decide ((ds.length : Int) = m)
  | _ => false
theorem kit_tup (v : Dt) : kitB (kindOf v) "tuple" = some (isTp v) := by
  cases v with
  | dict kvs =>
    cases kvs with
    | nil => rfl
    | cons p r =>
      obtain ⟨a, b⟩ := p
      cases a <;> first | rfl | (cases b <;> rfl)
  | _ => rfl
theorem kind_intB {v : Dt} (h : isDt v = false) : decide (kindOf v = "int") = isI v := by
  cases v with
  | dict kvs =>
    cases kvs with
    | nil => rfl
    | cons p r =>
      obtain ⟨a, b⟩ := p
      cases a <;> first | rfl | (cases b <;> rfl)
  | _ => rfl
theorem P_is_integer_all {v : Dt} (h : isDt v = false) : ofFn fn_is_integer [v] = pr (.bool (isI v)) := of_pr J_is_integer (by
  unfold P_is_integer
  have := kind_intB h
  simp (implicitDefEqProofs := false) [pb_pr, pb_pz, pb_pb, po_s, po_n, pif_t, pif_f, lift0_pr, pnx_pr, p2_d, p1_d, pB_b, pasB_d, pasT_d, pT_n, pT_b, pT_i, pT_l, pT_t, pchain_d, pandM_d, porM_d, pnotM_d, pandV_d, porV_d, pnotV_d, pite_d, pcons_d, ptup_d, plst_d, pfrz_d, pix_d, ppart_d, pI_i, pslice_d, pcall_d, ptyp_d, pL_l, pN_i, pS_l, pS_t, plis_d, pcat_d, piter_d, prng_d, prev_d, pfn_d, pfnR_d, paug_i, paugX_d, pcomp_d, pcomp2_d, un1_d, un2_t, un3_t, un4_t, pel_d, pel2_d, pend_l, pend_r, sd0, sd1, sd2, sd3, sd4, sd5, sd6, dAdd_int, dSub_int, dLt_int, dLe_int, dGt_int, dGe_int, dFdv_int, dMod_int, dMulR, dMulL, dNeg_int, pow18, dIs_none, dIsN_none, dIs_b, dIsN_b, isNone, dEq_id, dNe_id, dEq_bb, dNe_bb, dIx_l, dIx_t, dSl_l, dSl_t, dLen_l, dLen_t, dInt_i, dTup_l, dTup_t, dAbs_i, items_l, items_t, isDt_n, isDt_i, isDt_b, isDt_s, isDt_t, isDt_l, zO_tt, zO_ll, zO_tl, enO_t, enO_l, dEq_ln, dNe_ln, dEq_lt, dNe_lt, -List.getD_eq_getElem?_getD, -List.map_map, -List.map_take, -List.map_drop, h, this])
theorem P_is_tuple_of_all {v : Dt} {m : Int} : ofFn fn_is_tuple_of [v, .int m] = pr (.bool (tupB v m)) := of_pr J_is_tuple_of (by
  unfold P_is_tuple_of
  have := kit_tup v
  cases v with
  | tuple ds => simp (implicitDefEqProofs := false) [pb_pr, pb_pz, pb_pb, po_s, po_n, pif_t, pif_f, lift0_pr, pnx_pr, p2_d, p1_d, pB_b, pasB_d, pasT_d, pT_n, pT_b, pT_i, pT_l, pT_t, pchain_d, pandM_d, porM_d, pnotM_d, pandV_d, porV_d, pnotV_d, pite_d, pcons_d, ptup_d, plst_d, pfrz_d, pix_d, ppart_d, pI_i, pslice_d, pcall_d, ptyp_d, pL_l, pN_i, pS_l, pS_t, plis_d, pcat_d, piter_d, prng_d, prev_d, pfn_d, pfnR_d, paug_i, paugX_d, pcomp_d, pcomp2_d, un1_d, un2_t, un3_t, un4_t, pel_d, pel2_d, pend_l, pend_r, sd0, sd1, sd2, sd3, sd4, sd5, sd6, dAdd_int, dSub_int, dLt_int, dLe_int, dGt_int, dGe_int, dFdv_int, dMod_int, dMulR, dMulL, dNeg_int, pow18, dIs_none, dIsN_none, dIs_b, dIsN_b, isNone, dEq_id, dNe_id, dEq_bb, dNe_bb, dIx_l, dIx_t, dSl_l, dSl_t, dLen_l, dLen_t, dInt_i, dTup_l, dTup_t, dAbs_i, items_l, items_t, isDt_n, isDt_i, isDt_b, isDt_s, isDt_t, isDt_l, zO_tt, zO_ll, zO_tl, enO_t, enO_l, dEq_ln, dNe_ln, dEq_lt, dNe_lt, -List.getD_eq_getElem?_getD, -List.map_map, -List.map_take, -List.map_drop, this, isTp, tupB]
  | _ => simp (implicitDefEqProofs := false) [pb_pr, pb_pz, pb_pb, po_s, po_n, pif_t, pif_f, lift0_pr, pnx_pr, p2_d, p1_d, pB_b, pasB_d, pasT_d, pT_n, pT_b, pT_i, pT_l, pT_t, pchain_d, pandM_d, porM_d, pnotM_d, pandV_d, porV_d, pnotV_d, pite_d, pcons_d, ptup_d, plst_d, pfrz_d, pix_d, ppart_d, pI_i, pslice_d, pcall_d, ptyp_d, pL_l, pN_i, pS_l, pS_t, plis_d, pcat_d, piter_d, prng_d, prev_d, pfn_d, pfnR_d, paug_i, paugX_d, pcomp_d, pcomp2_d, un1_d, un2_t, un3_t, un4_t, pel_d, pel2_d, pend_l, pend_r, sd0, sd1, sd2, sd3, sd4, sd5, sd6, dAdd_int, dSub_int, dLt_int, dLe_int, dGt_int, dGe_int, dFdv_int, dMod_int, dMulR, dMulL, dNeg_int, pow18, dIs_none, dIsN_none, dIs_b, dIsN_b, isNone, dEq_id, dNe_id, dEq_bb, dNe_bb, dIx_l, dIx_t, dSl_l, dSl_t, dLen_l, dLen_t, dInt_i, dTup_l, dTup_t, dAbs_i, items_l, items_t, isDt_n, isDt_i, isDt_b, isDt_s, isDt_t, isDt_l, zO_tt, zO_ll, zO_tl, enO_t, enO_l, dEq_ln, dNe_ln, dEq_lt, dNe_lt, -List.getD_eq_getElem?_getD, -List.map_map, -List.map_take, -List.map_drop, this, isTp, tupB])
theorem P_is_entry_all {v : Dt} (h : isDt v = false) : ofFn fn_is_entry [v] = pr (.bool (entB v)) := of_pr J_is_entry (by
  unfold P_is_entry
  have e := P_is_integer_all h
  cases v with
  | int i =>
    by_cases c : 0 ≤ i
    · simp (implicitDefEqProofs := false) [pb_pr, pb_pz, pb_pb, po_s, po_n, pif_t, pif_f, lift0_pr, pnx_pr, p2_d, p1_d, pB_b, pasB_d, pasT_d, pT_n, pT_b, pT_i, pT_l, pT_t, pchain_d, pandM_d, porM_d, pnotM_d, pandV_d, porV_d, pnotV_d, pite_d, pcons_d, ptup_d, plst_d, pfrz_d, pix_d, ppart_d, pI_i, pslice_d, pcall_d, ptyp_d, pL_l, pN_i, pS_l, pS_t, plis_d, pcat_d, piter_d, prng_d, prev_d, pfn_d, pfnR_d, paug_i, paugX_d, pcomp_d, pcomp2_d, un1_d, un2_t, un3_t, un4_t, pel_d, pel2_d, pend_l, pend_r, sd0, sd1, sd2, sd3, sd4, sd5, sd6, dAdd_int, dSub_int, dLt_int, dLe_int, dGt_int, dGe_int, dFdv_int, dMod_int, dMulR, dMulL, dNeg_int, pow18, dIs_none, dIsN_none, dIs_b, dIsN_b, isNone, dEq_id, dNe_id, dEq_bb, dNe_bb, dIx_l, dIx_t, dSl_l, dSl_t, dLen_l, dLen_t, dInt_i, dTup_l, dTup_t, dAbs_i, items_l, items_t, isDt_n, isDt_i, isDt_b, isDt_s, isDt_t, isDt_l, zO_tt, zO_ll, zO_tl, enO_t, enO_l, dEq_ln, dNe_ln, dEq_lt, dNe_lt, -List.getD_eq_getElem?_getD, -List.map_map, -List.map_take, -List.map_drop, e, isI, entB, c]
    · simp (implicitDefEqProofs := false) [pb_pr, pb_pz, pb_pb, po_s, po_n, pif_t, pif_f, lift0_pr, pnx_pr, p2_d, p1_d, pB_b, pasB_d, pasT_d, pT_n, pT_b, pT_i, pT_l, pT_t, pchain_d, pandM_d, porM_d, pnotM_d, pandV_d, porV_d, pnotV_d, pite_d, pcons_d, ptup_d, plst_d, pfrz_d, pix_d, ppart_d, pI_i, pslice_d, pcall_d, ptyp_d, pL_l, pN_i, pS_l, pS_t, plis_d, pcat_d, piter_d, prng_d, prev_d, pfn_d, pfnR_d, paug_i, paugX_d, pcomp_d, pcomp2_d, un1_d, un2_t, un3_t, un4_t, pel_d, pel2_d, pend_l, pend_r, sd0, sd1, sd2, sd3, sd4, sd5, sd6, dAdd_int, dSub_int, dLt_int, dLe_int, dGt_int, dGe_int, dFdv_int, dMod_int, dMulR, dMulL, dNeg_int, pow18, dIs_none, dIsN_none, dIs_b, dIsN_b, isNone, dEq_id, dNe_id, dEq_bb, dNe_bb, dIx_l, dIx_t, dSl_l, dSl_t, dLen_l, dLen_t, dInt_i, dTup_l, dTup_t, dAbs_i, items_l, items_t, isDt_n, isDt_i, isDt_b, isDt_s, isDt_t, isDt_l, zO_tt, zO_ll, zO_tl, enO_t, enO_l, dEq_ln, dNe_ln, dEq_lt, dNe_lt, -List.getD_eq_getElem?_getD, -List.map_map, -List.map_take, -List.map_drop, e, isI, entB, c]
  | _ => simp (implicitDefEqProofs := false) [pb_pr, pb_pz, pb_pb, po_s, po_n, pif_t, pif_f, lift0_pr, pnx_pr, p2_d, p1_d, pB_b, pasB_d, pasT_d, pT_n, pT_b, pT_i, pT_l, pT_t, pchain_d, pandM_d, porM_d, pnotM_d, pandV_d, porV_d, pnotV_d, pite_d, pcons_d, ptup_d, plst_d, pfrz_d, pix_d, ppart_d, pI_i, pslice_d, pcall_d, ptyp_d, pL_l, pN_i, pS_l, pS_t, plis_d, pcat_d, piter_d, prng_d, prev_d, pfn_d, pfnR_d, paug_i, paugX_d, pcomp_d, pcomp2_d, un1_d, un2_t, un3_t, un4_t, pel_d, pel2_d, pend_l, pend_r, sd0, sd1, sd2, sd3, sd4, sd5, sd6, dAdd_int, dSub_int, dLt_int, dLe_int, dGt_int, dGe_int, dFdv_int, dMod_int, dMulR, dMulL, dNeg_int, pow18, dIs_none, dIsN_none, dIs_b, dIsN_b, isNone, dEq_id, dNe_id, dEq_bb, dNe_bb, dIx_l, dIx_t, dSl_l, dSl_t, dLen_l, dLen_t, dInt_i, dTup_l, dTup_t, dAbs_i, items_l, items_t, isDt_n, isDt_i, isDt_b, isDt_s, isDt_t, isDt_l, zO_tt, zO_ll, zO_tl, enO_t, enO_l, dEq_ln, dNe_ln, dEq_lt, dNe_lt, -List.getD_eq_getElem?_getD, -List.map_map, -List.map_take, -List.map_drop, e, isI, entB])
end DN

namespace DN
open PySem PySem.Spec L2
section
variable {τ σ : Type}
end
/-- a problem that is refused -/
def Rf (v : Dt) (x : Exn) : Prop := ofFn fn_check_problem [v] = pexn x ∧ fn_check_problem [.val v] = .exn x [.val v]
abbrev xPb (p i : Dt) : Exn := ⟨"BadProblem", [("index", i), ("part", p)]⟩
end DN

namespace DN
open PySem PySem.Spec L2
section
variable {p : Pr} {n N a : Nat} {C R : Nat → Int}
end
end DN

namespace DN
open PySem PySem.Spec L2
section
variable {p : Pr} {n a : Nat} {C R : Nat → Int}
end
end DN

namespace DN
open PySem PySem.Spec L2
section
variable {P : Dt} {n : Nat} {d s u h : List Int}
end
section
variable {p : Pr} {n : Nat} {C R : Nat → Int}
end
end DN

namespace DN
open PySem PySem.Spec L2
abbrev Ln := Int × Int
def val (l : Ln) (q : Int) : Int := l.2 - l.1 * q
def Usl (f m l : Ln) : Prop := (l.2 - f.2) * (m.1 - f.1) ≤ (m.2 - f.2) * (l.1 - f.1)
instance (f m l : Ln) : Decidable (Usl f m l) := inferInstanceAs (Decidable (_ ≤ _))
def Ab (x y : Ln) : Prop := y.1 ≤ x.1 ∧ (y.1 = x.1 → x.2 ≤ y.2)
def Cvx : List Ln → Prop
  | l :: m :: f :: r => ¬ Usl f m l ∧ Cvx (m :: f :: r)
  | _ => True
/-- what a stack holds of the lines of the periods from a on -/
structure Env (W G : Nat → Int) (n a : Nat) (S : List Ln) : Prop where
  ne : S ≠ []
  mem : ∀ l ∈ S, ∃ e, a ≤ e ∧ e ≤ n ∧ l = (W e, G e)
  best : ∀ q e, a ≤ e → e ≤ n → ∃ l ∈ S, val l q ≤ G e - W e * q
  ord : S.Pairwise Ab
  cvx : Cvx S
section
variable {p : Pr} {n : Nat} {R : Nat → Int}
end
end DN

namespace DN
open PySem PySem.Spec L2
section
variable {τ σ : Type} {cc : σ → M τ Bool} {b : σ → M τ (Lp σ)}
def Runs (cc : σ → M τ Bool) (b : σ → M τ (Lp σ)) (s r : σ) : Prop := ∃ (k : Nat) (v : Nat → σ), v 0 = s ∧ v k = r ∧ (∀ i, i < k → cc (v i) = pr true ∧ b (v i) = pr (.go (v (i + 1)))) ∧ cc (v k) = pr false
theorem runs_end {s : σ} (h : cc s = pr false) : Runs cc b s s := ⟨0, fun _ => s, rfl, rfl, fun i hi => by omega, h⟩
theorem runs_step {s s' r : σ} (h1 : cc s = pr true) (h2 : b s = pr (.go s')) (R : Runs cc b s' r) : Runs cc b s r := by
  obtain ⟨k, v, e0, ek, hg, he⟩ := R
  refine ⟨k + 1, fun i => match i with | 0 => s | i + 1 => v i, rfl, ek, fun i hi => ?_, he⟩
  cases i with
  | zero => exact ⟨h1, by show b s = pr (.go (v 0)); rw [e0]; exact h2⟩
  | succ i => exact hg i (by omega)
theorem runs_while {s r : σ} (R : Runs cc b s r) : whileP cc b s = pr r := by
  obtain ⟨k, v, rfl, rfl, hg, he⟩ := R
  exact whileP_to v k hg he
end
theorem at2_0 {x y : Dt} : atI [x, y] 0 = some x := rfl
theorem at2_1 {x y : Dt} : atI [x, y] 1 = some y := rfl
end DN

namespace DN
open PySem PySem.Spec L2
section
variable {F : List Ln} {q : Int}
end
section
variable {W G : Nat → Int} {n a : Nat} {S : List Ln}
end
end DN

namespace DN
open PySem PySem.Spec L2
section
variable {P : Dt} {n : Nat} {d s u h : List Int}
end
end DN

namespace DN
open PySem PySem.Spec L2
section
variable {p : Pr} {N : Nat} {C R : Nat → Int}
end
section
variable {P : Dt} {n : Nat} {d s u h : List Int}
end
end DN

namespace DN
open PySem PySem.Spec L2
section
variable {τ : Type}
def ppk (o : Option (Option (List Dt → M Unit Dt))) (ca : M τ (List Dt)) : M τ Dt := match o with
  | some (some P) => pfn P ca
  | _ => pz
theorem ppick_n {ps : List (Option (List Dt → M Unit Dt))} {j : Int} {ca : M τ (List Dt)} : ppick ps (pr (.int j)) ca = ppk (atI ps j) ca := (rfl)
theorem ppk_s {P : List Dt → M Unit Dt} {ca : M τ (List Dt)} : ppk (some (some P)) ca = pfn P ca := (rfl)
end
section
variable {α : Type} {a b c d e f g : α}
theorem atp2_0 : atI [a, b] 0 = some a := rfl
theorem atp2_1 : atI [a, b] 1 = some b := rfl
theorem at5_0 : atI [a, b, c, d, e] 0 = some a := rfl
theorem at5_1 : atI [a, b, c, d, e] 1 = some b := rfl
theorem at5_2 : atI [a, b, c, d, e] 2 = some c := rfl
theorem at5_3 : atI [a, b, c, d, e] 3 = some d := rfl
theorem at5_4 : atI [a, b, c, d, e] 4 = some e := rfl
theorem at6_0 : atI [a, b, c, d, e, f] 0 = some a := rfl
theorem at6_1 : atI [a, b, c, d, e, f] 1 = some b := rfl
theorem at6_2 : atI [a, b, c, d, e, f] 2 = some c := rfl
theorem at6_3 : atI [a, b, c, d, e, f] 3 = some d := rfl
theorem at6_4 : atI [a, b, c, d, e, f] 4 = some e := rfl
theorem at6_5 : atI [a, b, c, d, e, f] 5 = some f := rfl
theorem at7_0 : atI [a, b, c, d, e, f, g] 0 = some a := rfl
theorem at7_1 : atI [a, b, c, d, e, f, g] 1 = some b := rfl
theorem at7_2 : atI [a, b, c, d, e, f, g] 2 = some c := rfl
theorem at7_3 : atI [a, b, c, d, e, f, g] 3 = some d := rfl
theorem at7_4 : atI [a, b, c, d, e, f, g] 4 = some e := rfl
theorem at7_5 : atI [a, b, c, d, e, f, g] 5 = some f := rfl
theorem at7_6 : atI [a, b, c, d, e, f, g] 6 = some g := rfl
end
theorem sd7 : decide (7 ≤ sizeLine) = true := by decide
theorem sd8 : decide (8 ≤ sizeLine) = true := by decide
theorem sd9 : decide (9 ≤ sizeLine) = true := by decide
theorem sd10 : decide (10 ≤ sizeLine) = true := by decide
theorem sd11 : decide (11 ≤ sizeLine) = true := by decide
theorem sd12 : decide (12 ≤ sizeLine) = true := by decide
theorem sd13 : decide (13 ≤ sizeLine) = true := by decide
section
variable {P v : Dt} {n : Nat} {d s u h f : List Int}
end
end DN

namespace DN
open PySem PySem.Spec L2
section
variable {v w z : Dt} {x : Exn}
theorem Rf.stage_costsF (H : Rf v x) : fn_stage_costs [.val v] = .exn x [.val v] := by
  have e := H.2
  unfold fn_stage_costs bd_stage_costs
  simp (implicitDefEqProofs := false) [bind_ok, bind_exn, bind_stuck, bnd_ap, ret_ap, bad_ap, opt_some, opt_none, op2_ap, op1_ap, var_ap, varK_val, varK_own, dAdd_int, dSub_int, dLt_int, dLe_int, dGt_int, dGe_int, dFdv_int, dMod_int, dMulR, dMulL, dNeg_int, pow18, asB_ap, bK_b, dIs_none, dIsN_none, dIs_b, dIsN_b, isNone, dEq_ii, dNe_ii, dEq_bb, dNe_bb, chain_ap, chK_b, andM_ap, orM_ap, notM_ap, andV_ap, orV_ap, notV_ap, iteV_ap, consA_ap, tupM_ap, lstM_ap, sz0, sz1, sz2, sz3, sz4, sz5, frz_ap, frK_l, dIx_l, dIx_t, dIx_s, oIx_ap, isO_own, isO_arg, oK_own, oK_arg, partM_ap, pK_i, sliceM_ap, dSl_l, dSl_t, callB_ap, dLen_l, dLen_t, dLen_s, oLen_ap, oLK_own, oLK_arg, dInt_i, dTup_l, dTup_t, dAbs_i, lisM_ap, liK_l, liK_t, callM_ap, call_ok, getO_ap, gO_own, gO_arg, putR_ap, puK_own, puK_arg, fcallR_ok, cRK_s, callR_ap, putS_ap, pS_none, pS_val, pS_own, seqM_ap, seq_nx, seq_rt, seq_bk, seq_ct, done_ap, exprM_ap, retM_ap, ifM_ap, setM_ap, setO_ap, asg_ok, asgM_ap, xE_ap, xO_ap, auI_i, pxN_s, pxK_s, pxG_s, putIx_ap, apK_s, isLs_s, appM_ap, items_l, items_t, items_s, iterM_ap, rngM_ap, enO_ap, zO_ap, noX_ap, nox_ok, asT_ap, tK_b, tK_n, tK_i, tK_l, tK_t, tupG_t, consG_c, nilG_n, yes_ap, fnD_ap, fin_nx, fin_rt, backs_n, backs_c, pick_v, pick_a, isiM_ap, isi2M_ap, typM_ap, isDt_n, isDt_i, isDt_b, isDt_s, isDt_t, isDt_l, e]
  rfl
theorem Rf.stage_costs (H : Rf v x) : ofFn fn_stage_costs [v] = pexn x := ofFn_ex (ds := [v]) H.stage_costsF
theorem Rf.least_cost (H : Rf v x) : ofFn fn_least_cost [v] = pexn x := ofFn_ex (ds := [v]) (by
  have e := H.stage_costsF
  show fn_least_cost [.val v] = .exn x [.val v]
  unfold fn_least_cost bd_least_cost
  simp (implicitDefEqProofs := false) [bind_ok, bind_exn, bind_stuck, bnd_ap, ret_ap, bad_ap, opt_some, opt_none, op2_ap, op1_ap, var_ap, varK_val, varK_own, dAdd_int, dSub_int, dLt_int, dLe_int, dGt_int, dGe_int, dFdv_int, dMod_int, dMulR, dMulL, dNeg_int, pow18, asB_ap, bK_b, dIs_none, dIsN_none, dIs_b, dIsN_b, isNone, dEq_ii, dNe_ii, dEq_bb, dNe_bb, chain_ap, chK_b, andM_ap, orM_ap, notM_ap, andV_ap, orV_ap, notV_ap, iteV_ap, consA_ap, tupM_ap, lstM_ap, sz0, sz1, sz2, sz3, sz4, sz5, frz_ap, frK_l, dIx_l, dIx_t, dIx_s, oIx_ap, isO_own, isO_arg, oK_own, oK_arg, partM_ap, pK_i, sliceM_ap, dSl_l, dSl_t, callB_ap, dLen_l, dLen_t, dLen_s, oLen_ap, oLK_own, oLK_arg, dInt_i, dTup_l, dTup_t, dAbs_i, lisM_ap, liK_l, liK_t, callM_ap, call_ok, getO_ap, gO_own, gO_arg, putR_ap, puK_own, puK_arg, fcallR_ok, cRK_s, callR_ap, putS_ap, pS_none, pS_val, pS_own, seqM_ap, seq_nx, seq_rt, seq_bk, seq_ct, done_ap, exprM_ap, retM_ap, ifM_ap, setM_ap, setO_ap, asg_ok, asgM_ap, xE_ap, xO_ap, auI_i, pxN_s, pxK_s, pxG_s, putIx_ap, apK_s, isLs_s, appM_ap, items_l, items_t, items_s, iterM_ap, rngM_ap, enO_ap, zO_ap, noX_ap, nox_ok, asT_ap, tK_b, tK_n, tK_i, tK_l, tK_t, tupG_t, consG_c, nilG_n, yes_ap, fnD_ap, fin_nx, fin_rt, backs_n, backs_c, pick_v, pick_a, isiM_ap, isi2M_ap, typM_ap, isDt_n, isDt_i, isDt_b, isDt_s, isDt_t, isDt_l, e]
  rfl)
theorem Rf.least_plan (H : Rf v x) : ofFn fn_least_plan [v] = pexn x := ofFn_ex (ds := [v]) (by
  have e := H.2
  show fn_least_plan [.val v] = .exn x [.val v]
  unfold fn_least_plan bd_least_plan
  simp (implicitDefEqProofs := false) [bind_ok, bind_exn, bind_stuck, bnd_ap, ret_ap, bad_ap, opt_some, opt_none, op2_ap, op1_ap, var_ap, varK_val, varK_own, dAdd_int, dSub_int, dLt_int, dLe_int, dGt_int, dGe_int, dFdv_int, dMod_int, dMulR, dMulL, dNeg_int, pow18, asB_ap, bK_b, dIs_none, dIsN_none, dIs_b, dIsN_b, isNone, dEq_ii, dNe_ii, dEq_bb, dNe_bb, chain_ap, chK_b, andM_ap, orM_ap, notM_ap, andV_ap, orV_ap, notV_ap, iteV_ap, consA_ap, tupM_ap, lstM_ap, sz0, sz1, sz2, sz3, sz4, sz5, frz_ap, frK_l, dIx_l, dIx_t, dIx_s, oIx_ap, isO_own, isO_arg, oK_own, oK_arg, partM_ap, pK_i, sliceM_ap, dSl_l, dSl_t, callB_ap, dLen_l, dLen_t, dLen_s, oLen_ap, oLK_own, oLK_arg, dInt_i, dTup_l, dTup_t, dAbs_i, lisM_ap, liK_l, liK_t, callM_ap, call_ok, getO_ap, gO_own, gO_arg, putR_ap, puK_own, puK_arg, fcallR_ok, cRK_s, callR_ap, putS_ap, pS_none, pS_val, pS_own, seqM_ap, seq_nx, seq_rt, seq_bk, seq_ct, done_ap, exprM_ap, retM_ap, ifM_ap, setM_ap, setO_ap, asg_ok, asgM_ap, xE_ap, xO_ap, auI_i, pxN_s, pxK_s, pxG_s, putIx_ap, apK_s, isLs_s, appM_ap, items_l, items_t, items_s, iterM_ap, rngM_ap, enO_ap, zO_ap, noX_ap, nox_ok, asT_ap, tK_b, tK_n, tK_i, tK_l, tK_t, tupG_t, consG_c, nilG_n, yes_ap, fnD_ap, fin_nx, fin_rt, backs_n, backs_c, pick_v, pick_a, isiM_ap, isi2M_ap, typM_ap, isDt_n, isDt_i, isDt_b, isDt_s, isDt_t, isDt_l, e]
  rfl)
theorem Rf.least_plans (H : Rf v x) : ofFn fn_least_plans [v] = pexn x := ofFn_ex (ds := [v]) (by
  have e := H.2
  show fn_least_plans [.val v] = .exn x [.val v]
  unfold fn_least_plans bd_least_plans
  simp (implicitDefEqProofs := false) [bind_ok, bind_exn, bind_stuck, bnd_ap, ret_ap, bad_ap, opt_some, opt_none, op2_ap, op1_ap, var_ap, varK_val, varK_own, dAdd_int, dSub_int, dLt_int, dLe_int, dGt_int, dGe_int, dFdv_int, dMod_int, dMulR, dMulL, dNeg_int, pow18, asB_ap, bK_b, dIs_none, dIsN_none, dIs_b, dIsN_b, isNone, dEq_ii, dNe_ii, dEq_bb, dNe_bb, chain_ap, chK_b, andM_ap, orM_ap, notM_ap, andV_ap, orV_ap, notV_ap, iteV_ap, consA_ap, tupM_ap, lstM_ap, sz0, sz1, sz2, sz3, sz4, sz5, frz_ap, frK_l, dIx_l, dIx_t, dIx_s, oIx_ap, isO_own, isO_arg, oK_own, oK_arg, partM_ap, pK_i, sliceM_ap, dSl_l, dSl_t, callB_ap, dLen_l, dLen_t, dLen_s, oLen_ap, oLK_own, oLK_arg, dInt_i, dTup_l, dTup_t, dAbs_i, lisM_ap, liK_l, liK_t, callM_ap, call_ok, getO_ap, gO_own, gO_arg, putR_ap, puK_own, puK_arg, fcallR_ok, cRK_s, callR_ap, putS_ap, pS_none, pS_val, pS_own, seqM_ap, seq_nx, seq_rt, seq_bk, seq_ct, done_ap, exprM_ap, retM_ap, ifM_ap, setM_ap, setO_ap, asg_ok, asgM_ap, xE_ap, xO_ap, auI_i, pxN_s, pxK_s, pxG_s, putIx_ap, apK_s, isLs_s, appM_ap, items_l, items_t, items_s, iterM_ap, rngM_ap, enO_ap, zO_ap, noX_ap, nox_ok, asT_ap, tK_b, tK_n, tK_i, tK_l, tK_t, tupG_t, consG_c, nilG_n, yes_ap, fnD_ap, fin_nx, fin_rt, backs_n, backs_c, pick_v, pick_a, isiM_ap, isi2M_ap, typM_ap, isDt_n, isDt_i, isDt_b, isDt_s, isDt_t, isDt_l, e]
  rfl)
theorem Rf.rest_costs (H : Rf v x) : P_rest_costs [v] = pexn x := by
  unfold P_rest_costs
  have e := H.1
  simp (implicitDefEqProofs := false) [pb_pr, pb_pz, pb_pb, po_s, po_n, pif_t, pif_f, lift0_pr, pnx_pr, p2_d, p1_d, pB_b, pasB_d, pasT_d, pT_n, pT_b, pT_i, pT_l, pT_t, pchain_d, pandM_d, porM_d, pnotM_d, pandV_d, porV_d, pnotV_d, pite_d, pcons_d, ptup_d, plst_d, pfrz_d, pix_d, ppart_d, pI_i, pslice_d, pcall_d, ptyp_d, pL_l, pN_i, pS_l, pS_t, plis_d, pcat_d, piter_d, prng_d, prev_d, pfn_d, pfnR_d, paug_i, paugX_d, pcomp_d, pcomp2_d, un1_d, un2_t, un3_t, un4_t, pel_d, pel2_d, pend_l, pend_r, sd0, sd1, sd2, sd3, sd4, sd5, sd6, dAdd_int, dSub_int, dLt_int, dLe_int, dGt_int, dGe_int, dFdv_int, dMod_int, dMulR, dMulL, dNeg_int, pow18, dIs_none, dIsN_none, dIs_b, dIsN_b, isNone, dEq_id, dNe_id, dEq_bb, dNe_bb, dIx_l, dIx_t, dSl_l, dSl_t, dLen_l, dLen_t, dInt_i, dTup_l, dTup_t, dAbs_i, items_l, items_t, isDt_n, isDt_i, isDt_b, isDt_s, isDt_t, isDt_l, zO_tt, zO_ll, zO_tl, enO_t, enO_l, dEq_ln, dNe_ln, dEq_lt, dNe_lt, -List.getD_eq_getElem?_getD, -List.map_map, -List.map_take, -List.map_drop, pb_ex, lift0_ex, praise_d, ptry_go, ptry_rt, ptry_ex, e]
theorem Rf.envelope_costs (H : Rf v x) : P_envelope_costs [v] = pexn x := by
  unfold P_envelope_costs
  have e := H.1
  simp (implicitDefEqProofs := false) [pb_pr, pb_pz, pb_pb, po_s, po_n, pif_t, pif_f, lift0_pr, pnx_pr, p2_d, p1_d, pB_b, pasB_d, pasT_d, pT_n, pT_b, pT_i, pT_l, pT_t, pchain_d, pandM_d, porM_d, pnotM_d, pandV_d, porV_d, pnotV_d, pite_d, pcons_d, ptup_d, plst_d, pfrz_d, pix_d, ppart_d, pI_i, pslice_d, pcall_d, ptyp_d, pL_l, pN_i, pS_l, pS_t, plis_d, pcat_d, piter_d, prng_d, prev_d, pfn_d, pfnR_d, paug_i, paugX_d, pcomp_d, pcomp2_d, un1_d, un2_t, un3_t, un4_t, pel_d, pel2_d, pend_l, pend_r, sd0, sd1, sd2, sd3, sd4, sd5, sd6, dAdd_int, dSub_int, dLt_int, dLe_int, dGt_int, dGe_int, dFdv_int, dMod_int, dMulR, dMulL, dNeg_int, pow18, dIs_none, dIsN_none, dIs_b, dIsN_b, isNone, dEq_id, dNe_id, dEq_bb, dNe_bb, dIx_l, dIx_t, dSl_l, dSl_t, dLen_l, dLen_t, dInt_i, dTup_l, dTup_t, dAbs_i, items_l, items_t, isDt_n, isDt_i, isDt_b, isDt_s, isDt_t, isDt_l, zO_tt, zO_ll, zO_tl, enO_t, enO_l, dEq_ln, dNe_ln, dEq_lt, dNe_lt, -List.getD_eq_getElem?_getD, -List.map_map, -List.map_take, -List.map_drop, pb_ex, lift0_ex, praise_d, ptry_go, ptry_rt, ptry_ex, e]
theorem Rf.is_steady (H : Rf v x) : P_is_steady [v] = pexn x := by
  unfold P_is_steady
  have e := H.1
  simp (implicitDefEqProofs := false) [pb_pr, pb_pz, pb_pb, po_s, po_n, pif_t, pif_f, lift0_pr, pnx_pr, p2_d, p1_d, pB_b, pasB_d, pasT_d, pT_n, pT_b, pT_i, pT_l, pT_t, pchain_d, pandM_d, porM_d, pnotM_d, pandV_d, porV_d, pnotV_d, pite_d, pcons_d, ptup_d, plst_d, pfrz_d, pix_d, ppart_d, pI_i, pslice_d, pcall_d, ptyp_d, pL_l, pN_i, pS_l, pS_t, plis_d, pcat_d, piter_d, prng_d, prev_d, pfn_d, pfnR_d, paug_i, paugX_d, pcomp_d, pcomp2_d, un1_d, un2_t, un3_t, un4_t, pel_d, pel2_d, pend_l, pend_r, sd0, sd1, sd2, sd3, sd4, sd5, sd6, dAdd_int, dSub_int, dLt_int, dLe_int, dGt_int, dGe_int, dFdv_int, dMod_int, dMulR, dMulL, dNeg_int, pow18, dIs_none, dIsN_none, dIs_b, dIsN_b, isNone, dEq_id, dNe_id, dEq_bb, dNe_bb, dIx_l, dIx_t, dSl_l, dSl_t, dLen_l, dLen_t, dInt_i, dTup_l, dTup_t, dAbs_i, items_l, items_t, isDt_n, isDt_i, isDt_b, isDt_s, isDt_t, isDt_l, zO_tt, zO_ll, zO_tl, enO_t, enO_l, dEq_ln, dNe_ln, dEq_lt, dNe_lt, -List.getD_eq_getElem?_getD, -List.map_map, -List.map_take, -List.map_drop, pb_ex, lift0_ex, praise_d, ptry_go, ptry_rt, ptry_ex, e]
theorem Rf.last_starts (H : Rf v x) : P_last_starts [v] = pexn x := by
  have e := H.stage_costs
  unfold P_last_starts
  simp (implicitDefEqProofs := false) [pb_pr, pb_pz, pb_pb, po_s, po_n, pif_t, pif_f, lift0_pr, pnx_pr, p2_d, p1_d, pB_b, pasB_d, pasT_d, pT_n, pT_b, pT_i, pT_l, pT_t, pchain_d, pandM_d, porM_d, pnotM_d, pandV_d, porV_d, pnotV_d, pite_d, pcons_d, ptup_d, plst_d, pfrz_d, pix_d, ppart_d, pI_i, pslice_d, pcall_d, ptyp_d, pL_l, pN_i, pS_l, pS_t, plis_d, pcat_d, piter_d, prng_d, prev_d, pfn_d, pfnR_d, paug_i, paugX_d, pcomp_d, pcomp2_d, un1_d, un2_t, un3_t, un4_t, pel_d, pel2_d, pend_l, pend_r, sd0, sd1, sd2, sd3, sd4, sd5, sd6, dAdd_int, dSub_int, dLt_int, dLe_int, dGt_int, dGe_int, dFdv_int, dMod_int, dMulR, dMulL, dNeg_int, pow18, dIs_none, dIsN_none, dIs_b, dIsN_b, isNone, dEq_id, dNe_id, dEq_bb, dNe_bb, dIx_l, dIx_t, dSl_l, dSl_t, dLen_l, dLen_t, dInt_i, dTup_l, dTup_t, dAbs_i, items_l, items_t, isDt_n, isDt_i, isDt_b, isDt_s, isDt_t, isDt_l, zO_tt, zO_ll, zO_tl, enO_t, enO_l, dEq_ln, dNe_ln, dEq_lt, dNe_lt, -List.getD_eq_getElem?_getD, -List.map_map, -List.map_take, -List.map_drop, pb_ex, lift0_ex, praise_d, ptry_go, ptry_rt, ptry_ex, e]
theorem Rf.prices (H : Rf v x) : P_prices [v] = pexn x := by
  have e := H.stage_costs
  unfold P_prices
  simp (implicitDefEqProofs := false) [pb_pr, pb_pz, pb_pb, po_s, po_n, pif_t, pif_f, lift0_pr, pnx_pr, p2_d, p1_d, pB_b, pasB_d, pasT_d, pT_n, pT_b, pT_i, pT_l, pT_t, pchain_d, pandM_d, porM_d, pnotM_d, pandV_d, porV_d, pnotV_d, pite_d, pcons_d, ptup_d, plst_d, pfrz_d, pix_d, ppart_d, pI_i, pslice_d, pcall_d, ptyp_d, pL_l, pN_i, pS_l, pS_t, plis_d, pcat_d, piter_d, prng_d, prev_d, pfn_d, pfnR_d, paug_i, paugX_d, pcomp_d, pcomp2_d, un1_d, un2_t, un3_t, un4_t, pel_d, pel2_d, pend_l, pend_r, sd0, sd1, sd2, sd3, sd4, sd5, sd6, dAdd_int, dSub_int, dLt_int, dLe_int, dGt_int, dGe_int, dFdv_int, dMod_int, dMulR, dMulL, dNeg_int, pow18, dIs_none, dIsN_none, dIs_b, dIsN_b, isNone, dEq_id, dNe_id, dEq_bb, dNe_bb, dIx_l, dIx_t, dSl_l, dSl_t, dLen_l, dLen_t, dInt_i, dTup_l, dTup_t, dAbs_i, items_l, items_t, isDt_n, isDt_i, isDt_b, isDt_s, isDt_t, isDt_l, zO_tt, zO_ll, zO_tl, enO_t, enO_l, dEq_ln, dNe_ln, dEq_lt, dNe_lt, -List.getD_eq_getElem?_getD, -List.map_map, -List.map_take, -List.map_drop, pb_ex, lift0_ex, praise_d, ptry_go, ptry_rt, ptry_ex, e]
theorem Rf.tradeoffs (H : Rf v x) : P_tradeoffs [v] = pexn x := by
  unfold P_tradeoffs
  have e := H.1
  simp (implicitDefEqProofs := false) [pb_pr, pb_pz, pb_pb, po_s, po_n, pif_t, pif_f, lift0_pr, pnx_pr, p2_d, p1_d, pB_b, pasB_d, pasT_d, pT_n, pT_b, pT_i, pT_l, pT_t, pchain_d, pandM_d, porM_d, pnotM_d, pandV_d, porV_d, pnotV_d, pite_d, pcons_d, ptup_d, plst_d, pfrz_d, pix_d, ppart_d, pI_i, pslice_d, pcall_d, ptyp_d, pL_l, pN_i, pS_l, pS_t, plis_d, pcat_d, piter_d, prng_d, prev_d, pfn_d, pfnR_d, paug_i, paugX_d, pcomp_d, pcomp2_d, un1_d, un2_t, un3_t, un4_t, pel_d, pel2_d, pend_l, pend_r, sd0, sd1, sd2, sd3, sd4, sd5, sd6, dAdd_int, dSub_int, dLt_int, dLe_int, dGt_int, dGe_int, dFdv_int, dMod_int, dMulR, dMulL, dNeg_int, pow18, dIs_none, dIsN_none, dIs_b, dIsN_b, isNone, dEq_id, dNe_id, dEq_bb, dNe_bb, dIx_l, dIx_t, dSl_l, dSl_t, dLen_l, dLen_t, dInt_i, dTup_l, dTup_t, dAbs_i, items_l, items_t, isDt_n, isDt_i, isDt_b, isDt_s, isDt_t, isDt_l, zO_tt, zO_ll, zO_tl, enO_t, enO_l, dEq_ln, dNe_ln, dEq_lt, dNe_lt, -List.getD_eq_getElem?_getD, -List.map_map, -List.map_take, -List.map_drop, pb_ex, lift0_ex, praise_d, ptry_go, ptry_rt, ptry_ex, e]
theorem Rf.supported (H : Rf v x) : P_supported [v] = pexn x := by
  have e := H.tradeoffs
  unfold P_supported
  simp (implicitDefEqProofs := false) [pb_pr, pb_pz, pb_pb, po_s, po_n, pif_t, pif_f, lift0_pr, pnx_pr, p2_d, p1_d, pB_b, pasB_d, pasT_d, pT_n, pT_b, pT_i, pT_l, pT_t, pchain_d, pandM_d, porM_d, pnotM_d, pandV_d, porV_d, pnotV_d, pite_d, pcons_d, ptup_d, plst_d, pfrz_d, pix_d, ppart_d, pI_i, pslice_d, pcall_d, ptyp_d, pL_l, pN_i, pS_l, pS_t, plis_d, pcat_d, piter_d, prng_d, prev_d, pfn_d, pfnR_d, paug_i, paugX_d, pcomp_d, pcomp2_d, un1_d, un2_t, un3_t, un4_t, pel_d, pel2_d, pend_l, pend_r, sd0, sd1, sd2, sd3, sd4, sd5, sd6, dAdd_int, dSub_int, dLt_int, dLe_int, dGt_int, dGe_int, dFdv_int, dMod_int, dMulR, dMulL, dNeg_int, pow18, dIs_none, dIsN_none, dIs_b, dIsN_b, isNone, dEq_id, dNe_id, dEq_bb, dNe_bb, dIx_l, dIx_t, dSl_l, dSl_t, dLen_l, dLen_t, dInt_i, dTup_l, dTup_t, dAbs_i, items_l, items_t, isDt_n, isDt_i, isDt_b, isDt_s, isDt_t, isDt_l, zO_tt, zO_ll, zO_tl, enO_t, enO_l, dEq_ln, dNe_ln, dEq_lt, dNe_lt, -List.getD_eq_getElem?_getD, -List.map_map, -List.map_take, -List.map_drop, pb_ex, lift0_ex, praise_d, ptry_go, ptry_rt, ptry_ex, e]
theorem Rf.write (H : Rf v x) : P_write [v] = pexn x := by
  unfold P_write
  have e := H.1
  simp (implicitDefEqProofs := false) [pb_pr, pb_pz, pb_pb, po_s, po_n, pif_t, pif_f, lift0_pr, pnx_pr, p2_d, p1_d, pB_b, pasB_d, pasT_d, pT_n, pT_b, pT_i, pT_l, pT_t, pchain_d, pandM_d, porM_d, pnotM_d, pandV_d, porV_d, pnotV_d, pite_d, pcons_d, ptup_d, plst_d, pfrz_d, pix_d, ppart_d, pI_i, pslice_d, pcall_d, ptyp_d, pL_l, pN_i, pS_l, pS_t, plis_d, pcat_d, piter_d, prng_d, prev_d, pfn_d, pfnR_d, paug_i, paugX_d, pcomp_d, pcomp2_d, un1_d, un2_t, un3_t, un4_t, pel_d, pel2_d, pend_l, pend_r, sd0, sd1, sd2, sd3, sd4, sd5, sd6, dAdd_int, dSub_int, dLt_int, dLe_int, dGt_int, dGe_int, dFdv_int, dMod_int, dMulR, dMulL, dNeg_int, pow18, dIs_none, dIsN_none, dIs_b, dIsN_b, isNone, dEq_id, dNe_id, dEq_bb, dNe_bb, dIx_l, dIx_t, dSl_l, dSl_t, dLen_l, dLen_t, dInt_i, dTup_l, dTup_t, dAbs_i, items_l, items_t, isDt_n, isDt_i, isDt_b, isDt_s, isDt_t, isDt_l, zO_tt, zO_ll, zO_tl, enO_t, enO_l, dEq_ln, dNe_ln, dEq_lt, dNe_lt, -List.getD_eq_getElem?_getD, -List.map_map, -List.map_take, -List.map_drop, pb_ex, lift0_ex, praise_d, ptry_go, ptry_rt, ptry_ex, e]
theorem Rf.shows_prices (H : Rf v x) : P_shows_prices [v, w] = pexn x := by
  unfold P_shows_prices
  have e := H.1
  simp (implicitDefEqProofs := false) [pb_pr, pb_pz, pb_pb, po_s, po_n, pif_t, pif_f, lift0_pr, pnx_pr, p2_d, p1_d, pB_b, pasB_d, pasT_d, pT_n, pT_b, pT_i, pT_l, pT_t, pchain_d, pandM_d, porM_d, pnotM_d, pandV_d, porV_d, pnotV_d, pite_d, pcons_d, ptup_d, plst_d, pfrz_d, pix_d, ppart_d, pI_i, pslice_d, pcall_d, ptyp_d, pL_l, pN_i, pS_l, pS_t, plis_d, pcat_d, piter_d, prng_d, prev_d, pfn_d, pfnR_d, paug_i, paugX_d, pcomp_d, pcomp2_d, un1_d, un2_t, un3_t, un4_t, pel_d, pel2_d, pend_l, pend_r, sd0, sd1, sd2, sd3, sd4, sd5, sd6, dAdd_int, dSub_int, dLt_int, dLe_int, dGt_int, dGe_int, dFdv_int, dMod_int, dMulR, dMulL, dNeg_int, pow18, dIs_none, dIsN_none, dIs_b, dIsN_b, isNone, dEq_id, dNe_id, dEq_bb, dNe_bb, dIx_l, dIx_t, dSl_l, dSl_t, dLen_l, dLen_t, dInt_i, dTup_l, dTup_t, dAbs_i, items_l, items_t, isDt_n, isDt_i, isDt_b, isDt_s, isDt_t, isDt_l, zO_tt, zO_ll, zO_tl, enO_t, enO_l, dEq_ln, dNe_ln, dEq_lt, dNe_lt, -List.getD_eq_getElem?_getD, -List.map_map, -List.map_take, -List.map_drop, pb_ex, lift0_ex, praise_d, ptry_go, ptry_rt, ptry_ex, e]
theorem Rf.joined (H : Rf v x) : P_joined [v, w] = pexn x := by
  unfold P_joined
  have e := H.1
  simp (implicitDefEqProofs := false) [pb_pr, pb_pz, pb_pb, po_s, po_n, pif_t, pif_f, lift0_pr, pnx_pr, p2_d, p1_d, pB_b, pasB_d, pasT_d, pT_n, pT_b, pT_i, pT_l, pT_t, pchain_d, pandM_d, porM_d, pnotM_d, pandV_d, porV_d, pnotV_d, pite_d, pcons_d, ptup_d, plst_d, pfrz_d, pix_d, ppart_d, pI_i, pslice_d, pcall_d, ptyp_d, pL_l, pN_i, pS_l, pS_t, plis_d, pcat_d, piter_d, prng_d, prev_d, pfn_d, pfnR_d, paug_i, paugX_d, pcomp_d, pcomp2_d, un1_d, un2_t, un3_t, un4_t, pel_d, pel2_d, pend_l, pend_r, sd0, sd1, sd2, sd3, sd4, sd5, sd6, dAdd_int, dSub_int, dLt_int, dLe_int, dGt_int, dGe_int, dFdv_int, dMod_int, dMulR, dMulL, dNeg_int, pow18, dIs_none, dIsN_none, dIs_b, dIsN_b, isNone, dEq_id, dNe_id, dEq_bb, dNe_bb, dIx_l, dIx_t, dSl_l, dSl_t, dLen_l, dLen_t, dInt_i, dTup_l, dTup_t, dAbs_i, items_l, items_t, isDt_n, isDt_i, isDt_b, isDt_s, isDt_t, isDt_l, zO_tt, zO_ll, zO_tl, enO_t, enO_l, dEq_ln, dNe_ln, dEq_lt, dNe_lt, -List.getD_eq_getElem?_getD, -List.map_map, -List.map_take, -List.map_drop, pb_ex, lift0_ex, praise_d, ptry_go, ptry_rt, ptry_ex, e]
theorem Rf.check_steady (H : Rf v x) : P_check_steady [v] = pexn x := by
  unfold P_check_steady
  have e := H.1
  simp (implicitDefEqProofs := false) [pb_pr, pb_pz, pb_pb, po_s, po_n, pif_t, pif_f, lift0_pr, pnx_pr, p2_d, p1_d, pB_b, pasB_d, pasT_d, pT_n, pT_b, pT_i, pT_l, pT_t, pchain_d, pandM_d, porM_d, pnotM_d, pandV_d, porV_d, pnotV_d, pite_d, pcons_d, ptup_d, plst_d, pfrz_d, pix_d, ppart_d, pI_i, pslice_d, pcall_d, ptyp_d, pL_l, pN_i, pS_l, pS_t, plis_d, pcat_d, piter_d, prng_d, prev_d, pfn_d, pfnR_d, paug_i, paugX_d, pcomp_d, pcomp2_d, un1_d, un2_t, un3_t, un4_t, pel_d, pel2_d, pend_l, pend_r, sd0, sd1, sd2, sd3, sd4, sd5, sd6, dAdd_int, dSub_int, dLt_int, dLe_int, dGt_int, dGe_int, dFdv_int, dMod_int, dMulR, dMulL, dNeg_int, pow18, dIs_none, dIsN_none, dIs_b, dIsN_b, isNone, dEq_id, dNe_id, dEq_bb, dNe_bb, dIx_l, dIx_t, dSl_l, dSl_t, dLen_l, dLen_t, dInt_i, dTup_l, dTup_t, dAbs_i, items_l, items_t, isDt_n, isDt_i, isDt_b, isDt_s, isDt_t, isDt_l, zO_tt, zO_ll, zO_tl, enO_t, enO_l, dEq_ln, dNe_ln, dEq_lt, dNe_lt, -List.getD_eq_getElem?_getD, -List.map_map, -List.map_take, -List.map_drop, pb_ex, lift0_ex, praise_d, ptry_go, ptry_rt, ptry_ex, e]
theorem Rf.firm (H : Rf v x) : P_firm [v] = pexn x := by
  have e := H.check_steady
  unfold P_firm
  simp (implicitDefEqProofs := false) [pb_pr, pb_pz, pb_pb, po_s, po_n, pif_t, pif_f, lift0_pr, pnx_pr, p2_d, p1_d, pB_b, pasB_d, pasT_d, pT_n, pT_b, pT_i, pT_l, pT_t, pchain_d, pandM_d, porM_d, pnotM_d, pandV_d, porV_d, pnotV_d, pite_d, pcons_d, ptup_d, plst_d, pfrz_d, pix_d, ppart_d, pI_i, pslice_d, pcall_d, ptyp_d, pL_l, pN_i, pS_l, pS_t, plis_d, pcat_d, piter_d, prng_d, prev_d, pfn_d, pfnR_d, paug_i, paugX_d, pcomp_d, pcomp2_d, un1_d, un2_t, un3_t, un4_t, pel_d, pel2_d, pend_l, pend_r, sd0, sd1, sd2, sd3, sd4, sd5, sd6, dAdd_int, dSub_int, dLt_int, dLe_int, dGt_int, dGe_int, dFdv_int, dMod_int, dMulR, dMulL, dNeg_int, pow18, dIs_none, dIsN_none, dIs_b, dIsN_b, isNone, dEq_id, dNe_id, dEq_bb, dNe_bb, dIx_l, dIx_t, dSl_l, dSl_t, dLen_l, dLen_t, dInt_i, dTup_l, dTup_t, dAbs_i, items_l, items_t, isDt_n, isDt_i, isDt_b, isDt_s, isDt_t, isDt_l, zO_tt, zO_ll, zO_tl, enO_t, enO_l, dEq_ln, dNe_ln, dEq_lt, dNe_lt, -List.getD_eq_getElem?_getD, -List.map_map, -List.map_take, -List.map_drop, pb_ex, lift0_ex, praise_d, ptry_go, ptry_rt, ptry_ex, e]
theorem Rf.by_stock_rows (H : Rf v x) : P_by_stock_rows [v] = pexn x := by
  have e := H.check_steady
  unfold P_by_stock_rows
  simp (implicitDefEqProofs := false) [pb_pr, pb_pz, pb_pb, po_s, po_n, pif_t, pif_f, lift0_pr, pnx_pr, p2_d, p1_d, pB_b, pasB_d, pasT_d, pT_n, pT_b, pT_i, pT_l, pT_t, pchain_d, pandM_d, porM_d, pnotM_d, pandV_d, porV_d, pnotV_d, pite_d, pcons_d, ptup_d, plst_d, pfrz_d, pix_d, ppart_d, pI_i, pslice_d, pcall_d, ptyp_d, pL_l, pN_i, pS_l, pS_t, plis_d, pcat_d, piter_d, prng_d, prev_d, pfn_d, pfnR_d, paug_i, paugX_d, pcomp_d, pcomp2_d, un1_d, un2_t, un3_t, un4_t, pel_d, pel2_d, pend_l, pend_r, sd0, sd1, sd2, sd3, sd4, sd5, sd6, dAdd_int, dSub_int, dLt_int, dLe_int, dGt_int, dGe_int, dFdv_int, dMod_int, dMulR, dMulL, dNeg_int, pow18, dIs_none, dIsN_none, dIs_b, dIsN_b, isNone, dEq_id, dNe_id, dEq_bb, dNe_bb, dIx_l, dIx_t, dSl_l, dSl_t, dLen_l, dLen_t, dInt_i, dTup_l, dTup_t, dAbs_i, items_l, items_t, isDt_n, isDt_i, isDt_b, isDt_s, isDt_t, isDt_l, zO_tt, zO_ll, zO_tl, enO_t, enO_l, dEq_ln, dNe_ln, dEq_lt, dNe_lt, -List.getD_eq_getElem?_getD, -List.map_map, -List.map_take, -List.map_drop, pb_ex, lift0_ex, praise_d, ptry_go, ptry_rt, ptry_ex, e]
theorem Rf.cost (H : Rf v x) : P_cost [v, w] = pexn x := by
  unfold P_cost
  have e := H.1
  simp (implicitDefEqProofs := false) [pb_pr, pb_pz, pb_pb, po_s, po_n, pif_t, pif_f, lift0_pr, pnx_pr, p2_d, p1_d, pB_b, pasB_d, pasT_d, pT_n, pT_b, pT_i, pT_l, pT_t, pchain_d, pandM_d, porM_d, pnotM_d, pandV_d, porV_d, pnotV_d, pite_d, pcons_d, ptup_d, plst_d, pfrz_d, pix_d, ppart_d, pI_i, pslice_d, pcall_d, ptyp_d, pL_l, pN_i, pS_l, pS_t, plis_d, pcat_d, piter_d, prng_d, prev_d, pfn_d, pfnR_d, paug_i, paugX_d, pcomp_d, pcomp2_d, un1_d, un2_t, un3_t, un4_t, pel_d, pel2_d, pend_l, pend_r, sd0, sd1, sd2, sd3, sd4, sd5, sd6, dAdd_int, dSub_int, dLt_int, dLe_int, dGt_int, dGe_int, dFdv_int, dMod_int, dMulR, dMulL, dNeg_int, pow18, dIs_none, dIsN_none, dIs_b, dIsN_b, isNone, dEq_id, dNe_id, dEq_bb, dNe_bb, dIx_l, dIx_t, dSl_l, dSl_t, dLen_l, dLen_t, dInt_i, dTup_l, dTup_t, dAbs_i, items_l, items_t, isDt_n, isDt_i, isDt_b, isDt_s, isDt_t, isDt_l, zO_tt, zO_ll, zO_tl, enO_t, enO_l, dEq_ln, dNe_ln, dEq_lt, dNe_lt, -List.getD_eq_getElem?_getD, -List.map_map, -List.map_take, -List.map_drop, pb_ex, lift0_ex, praise_d, ptry_go, ptry_rt, ptry_ex, e]
theorem Rf.improved (H : Rf v x) : P_improved [v, w] = pexn x := by
  unfold P_improved
  have e := H.1
  simp (implicitDefEqProofs := false) [pb_pr, pb_pz, pb_pb, po_s, po_n, pif_t, pif_f, lift0_pr, pnx_pr, p2_d, p1_d, pB_b, pasB_d, pasT_d, pT_n, pT_b, pT_i, pT_l, pT_t, pchain_d, pandM_d, porM_d, pnotM_d, pandV_d, porV_d, pnotV_d, pite_d, pcons_d, ptup_d, plst_d, pfrz_d, pix_d, ppart_d, pI_i, pslice_d, pcall_d, ptyp_d, pL_l, pN_i, pS_l, pS_t, plis_d, pcat_d, piter_d, prng_d, prev_d, pfn_d, pfnR_d, paug_i, paugX_d, pcomp_d, pcomp2_d, un1_d, un2_t, un3_t, un4_t, pel_d, pel2_d, pend_l, pend_r, sd0, sd1, sd2, sd3, sd4, sd5, sd6, dAdd_int, dSub_int, dLt_int, dLe_int, dGt_int, dGe_int, dFdv_int, dMod_int, dMulR, dMulL, dNeg_int, pow18, dIs_none, dIsN_none, dIs_b, dIsN_b, isNone, dEq_id, dNe_id, dEq_bb, dNe_bb, dIx_l, dIx_t, dSl_l, dSl_t, dLen_l, dLen_t, dInt_i, dTup_l, dTup_t, dAbs_i, items_l, items_t, isDt_n, isDt_i, isDt_b, isDt_s, isDt_t, isDt_l, zO_tt, zO_ll, zO_tl, enO_t, enO_l, dEq_ln, dNe_ln, dEq_lt, dNe_lt, -List.getD_eq_getElem?_getD, -List.map_map, -List.map_take, -List.map_drop, pb_ex, lift0_ex, praise_d, ptry_go, ptry_rt, ptry_ex, e]
theorem Rf.starts (H : Rf v x) : ofFn fn_starts [v, w] = pexn x := of_ex J_starts (by
  unfold P_starts
  have e := H.1
  simp (implicitDefEqProofs := false) [pb_pr, pb_pz, pb_pb, po_s, po_n, pif_t, pif_f, lift0_pr, pnx_pr, p2_d, p1_d, pB_b, pasB_d, pasT_d, pT_n, pT_b, pT_i, pT_l, pT_t, pchain_d, pandM_d, porM_d, pnotM_d, pandV_d, porV_d, pnotV_d, pite_d, pcons_d, ptup_d, plst_d, pfrz_d, pix_d, ppart_d, pI_i, pslice_d, pcall_d, ptyp_d, pL_l, pN_i, pS_l, pS_t, plis_d, pcat_d, piter_d, prng_d, prev_d, pfn_d, pfnR_d, paug_i, paugX_d, pcomp_d, pcomp2_d, un1_d, un2_t, un3_t, un4_t, pel_d, pel2_d, pend_l, pend_r, sd0, sd1, sd2, sd3, sd4, sd5, sd6, dAdd_int, dSub_int, dLt_int, dLe_int, dGt_int, dGe_int, dFdv_int, dMod_int, dMulR, dMulL, dNeg_int, pow18, dIs_none, dIsN_none, dIs_b, dIsN_b, isNone, dEq_id, dNe_id, dEq_bb, dNe_bb, dIx_l, dIx_t, dSl_l, dSl_t, dLen_l, dLen_t, dInt_i, dTup_l, dTup_t, dAbs_i, items_l, items_t, isDt_n, isDt_i, isDt_b, isDt_s, isDt_t, isDt_l, zO_tt, zO_ll, zO_tl, enO_t, enO_l, dEq_ln, dNe_ln, dEq_lt, dNe_lt, -List.getD_eq_getElem?_getD, -List.map_map, -List.map_take, -List.map_drop, pb_ex, lift0_ex, praise_d, ptry_go, ptry_rt, ptry_ex, e])
end
end DN

namespace DN
open PySem PySem.Spec L2
section
variable {v p i : Dt}
theorem t2 (H : Rf v (xPb p i)) {w : Nat} (hw : w < 13) : P__law_told_2 [.int (w : Int), v] = pr (.tuple [p, i]) := by
  have e0 := H.least_cost
  have e1 := H.least_plan
  have e2 := H.least_plans
  have e3 := H.rest_costs
  have e4 := H.stage_costs
  have e5 := H.envelope_costs
  have e6 := H.is_steady
  have e7 := H.last_starts
  have e8 := H.prices
  have e9 := H.supported
  have e10 := H.tradeoffs
  have e11 := H.shows_prices (w := .none)
  have e12 := H.write
  have key : ∀ w : Nat, w < 13 → w = 0 ∨ w = 1 ∨ w = 2 ∨ w = 3 ∨ w = 4 ∨ w = 5 ∨ w = 6 ∨ w = 7 ∨ w = 8 ∨ w = 9 ∨ w = 10 ∨ w = 11 ∨ w = 12 := by omega
  unfold P__law_told_2
  rcases key w hw with rfl | rfl | rfl | rfl | rfl | rfl | rfl | rfl | rfl | rfl | rfl | rfl | rfl
  · simp (implicitDefEqProofs := false) [pb_pr, pb_pz, pb_pb, po_s, po_n, pif_t, pif_f, lift0_pr, pnx_pr, p2_d, p1_d, pB_b, pasB_d, pasT_d, pT_n, pT_b, pT_i, pT_l, pT_t, pchain_d, pandM_d, porM_d, pnotM_d, pandV_d, porV_d, pnotV_d, pite_d, pcons_d, ptup_d, plst_d, pfrz_d, pix_d, ppart_d, pI_i, pslice_d, pcall_d, ptyp_d, pL_l, pN_i, pS_l, pS_t, plis_d, pcat_d, piter_d, prng_d, prev_d, pfn_d, pfnR_d, paug_i, paugX_d, pcomp_d, pcomp2_d, un1_d, un2_t, un3_t, un4_t, pel_d, pel2_d, pend_l, pend_r, sd0, sd1, sd2, sd3, sd4, sd5, sd6, dAdd_int, dSub_int, dLt_int, dLe_int, dGt_int, dGe_int, dFdv_int, dMod_int, dMulR, dMulL, dNeg_int, pow18, dIs_none, dIsN_none, dIs_b, dIsN_b, isNone, dEq_id, dNe_id, dEq_bb, dNe_bb, dIx_l, dIx_t, dSl_l, dSl_t, dLen_l, dLen_t, dInt_i, dTup_l, dTup_t, dAbs_i, items_l, items_t, isDt_n, isDt_i, isDt_b, isDt_s, isDt_t, isDt_l, zO_tt, zO_ll, zO_tl, enO_t, enO_l, dEq_ln, dNe_ln, dEq_lt, dNe_lt, -List.getD_eq_getElem?_getD, -List.map_map, -List.map_take, -List.map_drop, pb_ex, lift0_ex, praise_d, ptry_go, ptry_rt, ptry_ex, sd7, sd8, sd9, sd10, sd11, sd12, sd13, ppick_n, ppk_s, atp2_0, atp2_1, at5_0, at5_1, at5_2, at5_3, at5_4, at6_0, at6_1, at6_2, at6_3, at6_4, at6_5, at7_0, at7_1, at7_2, at7_3, at7_4, at7_5, at7_6, e0]; rfl
  · simp (implicitDefEqProofs := false) [pb_pr, pb_pz, pb_pb, po_s, po_n, pif_t, pif_f, lift0_pr, pnx_pr, p2_d, p1_d, pB_b, pasB_d, pasT_d, pT_n, pT_b, pT_i, pT_l, pT_t, pchain_d, pandM_d, porM_d, pnotM_d, pandV_d, porV_d, pnotV_d, pite_d, pcons_d, ptup_d, plst_d, pfrz_d, pix_d, ppart_d, pI_i, pslice_d, pcall_d, ptyp_d, pL_l, pN_i, pS_l, pS_t, plis_d, pcat_d, piter_d, prng_d, prev_d, pfn_d, pfnR_d, paug_i, paugX_d, pcomp_d, pcomp2_d, un1_d, un2_t, un3_t, un4_t, pel_d, pel2_d, pend_l, pend_r, sd0, sd1, sd2, sd3, sd4, sd5, sd6, dAdd_int, dSub_int, dLt_int, dLe_int, dGt_int, dGe_int, dFdv_int, dMod_int, dMulR, dMulL, dNeg_int, pow18, dIs_none, dIsN_none, dIs_b, dIsN_b, isNone, dEq_id, dNe_id, dEq_bb, dNe_bb, dIx_l, dIx_t, dSl_l, dSl_t, dLen_l, dLen_t, dInt_i, dTup_l, dTup_t, dAbs_i, items_l, items_t, isDt_n, isDt_i, isDt_b, isDt_s, isDt_t, isDt_l, zO_tt, zO_ll, zO_tl, enO_t, enO_l, dEq_ln, dNe_ln, dEq_lt, dNe_lt, -List.getD_eq_getElem?_getD, -List.map_map, -List.map_take, -List.map_drop, pb_ex, lift0_ex, praise_d, ptry_go, ptry_rt, ptry_ex, sd7, sd8, sd9, sd10, sd11, sd12, sd13, ppick_n, ppk_s, atp2_0, atp2_1, at5_0, at5_1, at5_2, at5_3, at5_4, at6_0, at6_1, at6_2, at6_3, at6_4, at6_5, at7_0, at7_1, at7_2, at7_3, at7_4, at7_5, at7_6, e1]; rfl
  · simp (implicitDefEqProofs := false) [pb_pr, pb_pz, pb_pb, po_s, po_n, pif_t, pif_f, lift0_pr, pnx_pr, p2_d, p1_d, pB_b, pasB_d, pasT_d, pT_n, pT_b, pT_i, pT_l, pT_t, pchain_d, pandM_d, porM_d, pnotM_d, pandV_d, porV_d, pnotV_d, pite_d, pcons_d, ptup_d, plst_d, pfrz_d, pix_d, ppart_d, pI_i, pslice_d, pcall_d, ptyp_d, pL_l, pN_i, pS_l, pS_t, plis_d, pcat_d, piter_d, prng_d, prev_d, pfn_d, pfnR_d, paug_i, paugX_d, pcomp_d, pcomp2_d, un1_d, un2_t, un3_t, un4_t, pel_d, pel2_d, pend_l, pend_r, sd0, sd1, sd2, sd3, sd4, sd5, sd6, dAdd_int, dSub_int, dLt_int, dLe_int, dGt_int, dGe_int, dFdv_int, dMod_int, dMulR, dMulL, dNeg_int, pow18, dIs_none, dIsN_none, dIs_b, dIsN_b, isNone, dEq_id, dNe_id, dEq_bb, dNe_bb, dIx_l, dIx_t, dSl_l, dSl_t, dLen_l, dLen_t, dInt_i, dTup_l, dTup_t, dAbs_i, items_l, items_t, isDt_n, isDt_i, isDt_b, isDt_s, isDt_t, isDt_l, zO_tt, zO_ll, zO_tl, enO_t, enO_l, dEq_ln, dNe_ln, dEq_lt, dNe_lt, -List.getD_eq_getElem?_getD, -List.map_map, -List.map_take, -List.map_drop, pb_ex, lift0_ex, praise_d, ptry_go, ptry_rt, ptry_ex, sd7, sd8, sd9, sd10, sd11, sd12, sd13, ppick_n, ppk_s, atp2_0, atp2_1, at5_0, at5_1, at5_2, at5_3, at5_4, at6_0, at6_1, at6_2, at6_3, at6_4, at6_5, at7_0, at7_1, at7_2, at7_3, at7_4, at7_5, at7_6, e2]; rfl
  · simp (implicitDefEqProofs := false) [pb_pr, pb_pz, pb_pb, po_s, po_n, pif_t, pif_f, lift0_pr, pnx_pr, p2_d, p1_d, pB_b, pasB_d, pasT_d, pT_n, pT_b, pT_i, pT_l, pT_t, pchain_d, pandM_d, porM_d, pnotM_d, pandV_d, porV_d, pnotV_d, pite_d, pcons_d, ptup_d, plst_d, pfrz_d, pix_d, ppart_d, pI_i, pslice_d, pcall_d, ptyp_d, pL_l, pN_i, pS_l, pS_t, plis_d, pcat_d, piter_d, prng_d, prev_d, pfn_d, pfnR_d, paug_i, paugX_d, pcomp_d, pcomp2_d, un1_d, un2_t, un3_t, un4_t, pel_d, pel2_d, pend_l, pend_r, sd0, sd1, sd2, sd3, sd4, sd5, sd6, dAdd_int, dSub_int, dLt_int, dLe_int, dGt_int, dGe_int, dFdv_int, dMod_int, dMulR, dMulL, dNeg_int, pow18, dIs_none, dIsN_none, dIs_b, dIsN_b, isNone, dEq_id, dNe_id, dEq_bb, dNe_bb, dIx_l, dIx_t, dSl_l, dSl_t, dLen_l, dLen_t, dInt_i, dTup_l, dTup_t, dAbs_i, items_l, items_t, isDt_n, isDt_i, isDt_b, isDt_s, isDt_t, isDt_l, zO_tt, zO_ll, zO_tl, enO_t, enO_l, dEq_ln, dNe_ln, dEq_lt, dNe_lt, -List.getD_eq_getElem?_getD, -List.map_map, -List.map_take, -List.map_drop, pb_ex, lift0_ex, praise_d, ptry_go, ptry_rt, ptry_ex, sd7, sd8, sd9, sd10, sd11, sd12, sd13, ppick_n, ppk_s, atp2_0, atp2_1, at5_0, at5_1, at5_2, at5_3, at5_4, at6_0, at6_1, at6_2, at6_3, at6_4, at6_5, at7_0, at7_1, at7_2, at7_3, at7_4, at7_5, at7_6, e3]; rfl
  · simp (implicitDefEqProofs := false) [pb_pr, pb_pz, pb_pb, po_s, po_n, pif_t, pif_f, lift0_pr, pnx_pr, p2_d, p1_d, pB_b, pasB_d, pasT_d, pT_n, pT_b, pT_i, pT_l, pT_t, pchain_d, pandM_d, porM_d, pnotM_d, pandV_d, porV_d, pnotV_d, pite_d, pcons_d, ptup_d, plst_d, pfrz_d, pix_d, ppart_d, pI_i, pslice_d, pcall_d, ptyp_d, pL_l, pN_i, pS_l, pS_t, plis_d, pcat_d, piter_d, prng_d, prev_d, pfn_d, pfnR_d, paug_i, paugX_d, pcomp_d, pcomp2_d, un1_d, un2_t, un3_t, un4_t, pel_d, pel2_d, pend_l, pend_r, sd0, sd1, sd2, sd3, sd4, sd5, sd6, dAdd_int, dSub_int, dLt_int, dLe_int, dGt_int, dGe_int, dFdv_int, dMod_int, dMulR, dMulL, dNeg_int, pow18, dIs_none, dIsN_none, dIs_b, dIsN_b, isNone, dEq_id, dNe_id, dEq_bb, dNe_bb, dIx_l, dIx_t, dSl_l, dSl_t, dLen_l, dLen_t, dInt_i, dTup_l, dTup_t, dAbs_i, items_l, items_t, isDt_n, isDt_i, isDt_b, isDt_s, isDt_t, isDt_l, zO_tt, zO_ll, zO_tl, enO_t, enO_l, dEq_ln, dNe_ln, dEq_lt, dNe_lt, -List.getD_eq_getElem?_getD, -List.map_map, -List.map_take, -List.map_drop, pb_ex, lift0_ex, praise_d, ptry_go, ptry_rt, ptry_ex, sd7, sd8, sd9, sd10, sd11, sd12, sd13, ppick_n, ppk_s, atp2_0, atp2_1, at5_0, at5_1, at5_2, at5_3, at5_4, at6_0, at6_1, at6_2, at6_3, at6_4, at6_5, at7_0, at7_1, at7_2, at7_3, at7_4, at7_5, at7_6, e4]; rfl
  · simp (implicitDefEqProofs := false) [pb_pr, pb_pz, pb_pb, po_s, po_n, pif_t, pif_f, lift0_pr, pnx_pr, p2_d, p1_d, pB_b, pasB_d, pasT_d, pT_n, pT_b, pT_i, pT_l, pT_t, pchain_d, pandM_d, porM_d, pnotM_d, pandV_d, porV_d, pnotV_d, pite_d, pcons_d, ptup_d, plst_d, pfrz_d, pix_d, ppart_d, pI_i, pslice_d, pcall_d, ptyp_d, pL_l, pN_i, pS_l, pS_t, plis_d, pcat_d, piter_d, prng_d, prev_d, pfn_d, pfnR_d, paug_i, paugX_d, pcomp_d, pcomp2_d, un1_d, un2_t, un3_t, un4_t, pel_d, pel2_d, pend_l, pend_r, sd0, sd1, sd2, sd3, sd4, sd5, sd6, dAdd_int, dSub_int, dLt_int, dLe_int, dGt_int, dGe_int, dFdv_int, dMod_int, dMulR, dMulL, dNeg_int, pow18, dIs_none, dIsN_none, dIs_b, dIsN_b, isNone, dEq_id, dNe_id, dEq_bb, dNe_bb, dIx_l, dIx_t, dSl_l, dSl_t, dLen_l, dLen_t, dInt_i, dTup_l, dTup_t, dAbs_i, items_l, items_t, isDt_n, isDt_i, isDt_b, isDt_s, isDt_t, isDt_l, zO_tt, zO_ll, zO_tl, enO_t, enO_l, dEq_ln, dNe_ln, dEq_lt, dNe_lt, -List.getD_eq_getElem?_getD, -List.map_map, -List.map_take, -List.map_drop, pb_ex, lift0_ex, praise_d, ptry_go, ptry_rt, ptry_ex, sd7, sd8, sd9, sd10, sd11, sd12, sd13, ppick_n, ppk_s, atp2_0, atp2_1, at5_0, at5_1, at5_2, at5_3, at5_4, at6_0, at6_1, at6_2, at6_3, at6_4, at6_5, at7_0, at7_1, at7_2, at7_3, at7_4, at7_5, at7_6, e5]; rfl
  · simp (implicitDefEqProofs := false) [pb_pr, pb_pz, pb_pb, po_s, po_n, pif_t, pif_f, lift0_pr, pnx_pr, p2_d, p1_d, pB_b, pasB_d, pasT_d, pT_n, pT_b, pT_i, pT_l, pT_t, pchain_d, pandM_d, porM_d, pnotM_d, pandV_d, porV_d, pnotV_d, pite_d, pcons_d, ptup_d, plst_d, pfrz_d, pix_d, ppart_d, pI_i, pslice_d, pcall_d, ptyp_d, pL_l, pN_i, pS_l, pS_t, plis_d, pcat_d, piter_d, prng_d, prev_d, pfn_d, pfnR_d, paug_i, paugX_d, pcomp_d, pcomp2_d, un1_d, un2_t, un3_t, un4_t, pel_d, pel2_d, pend_l, pend_r, sd0, sd1, sd2, sd3, sd4, sd5, sd6, dAdd_int, dSub_int, dLt_int, dLe_int, dGt_int, dGe_int, dFdv_int, dMod_int, dMulR, dMulL, dNeg_int, pow18, dIs_none, dIsN_none, dIs_b, dIsN_b, isNone, dEq_id, dNe_id, dEq_bb, dNe_bb, dIx_l, dIx_t, dSl_l, dSl_t, dLen_l, dLen_t, dInt_i, dTup_l, dTup_t, dAbs_i, items_l, items_t, isDt_n, isDt_i, isDt_b, isDt_s, isDt_t, isDt_l, zO_tt, zO_ll, zO_tl, enO_t, enO_l, dEq_ln, dNe_ln, dEq_lt, dNe_lt, -List.getD_eq_getElem?_getD, -List.map_map, -List.map_take, -List.map_drop, pb_ex, lift0_ex, praise_d, ptry_go, ptry_rt, ptry_ex, sd7, sd8, sd9, sd10, sd11, sd12, sd13, ppick_n, ppk_s, atp2_0, atp2_1, at5_0, at5_1, at5_2, at5_3, at5_4, at6_0, at6_1, at6_2, at6_3, at6_4, at6_5, at7_0, at7_1, at7_2, at7_3, at7_4, at7_5, at7_6, e6]; rfl
  · simp (implicitDefEqProofs := false) [pb_pr, pb_pz, pb_pb, po_s, po_n, pif_t, pif_f, lift0_pr, pnx_pr, p2_d, p1_d, pB_b, pasB_d, pasT_d, pT_n, pT_b, pT_i, pT_l, pT_t, pchain_d, pandM_d, porM_d, pnotM_d, pandV_d, porV_d, pnotV_d, pite_d, pcons_d, ptup_d, plst_d, pfrz_d, pix_d, ppart_d, pI_i, pslice_d, pcall_d, ptyp_d, pL_l, pN_i, pS_l, pS_t, plis_d, pcat_d, piter_d, prng_d, prev_d, pfn_d, pfnR_d, paug_i, paugX_d, pcomp_d, pcomp2_d, un1_d, un2_t, un3_t, un4_t, pel_d, pel2_d, pend_l, pend_r, sd0, sd1, sd2, sd3, sd4, sd5, sd6, dAdd_int, dSub_int, dLt_int, dLe_int, dGt_int, dGe_int, dFdv_int, dMod_int, dMulR, dMulL, dNeg_int, pow18, dIs_none, dIsN_none, dIs_b, dIsN_b, isNone, dEq_id, dNe_id, dEq_bb, dNe_bb, dIx_l, dIx_t, dSl_l, dSl_t, dLen_l, dLen_t, dInt_i, dTup_l, dTup_t, dAbs_i, items_l, items_t, isDt_n, isDt_i, isDt_b, isDt_s, isDt_t, isDt_l, zO_tt, zO_ll, zO_tl, enO_t, enO_l, dEq_ln, dNe_ln, dEq_lt, dNe_lt, -List.getD_eq_getElem?_getD, -List.map_map, -List.map_take, -List.map_drop, pb_ex, lift0_ex, praise_d, ptry_go, ptry_rt, ptry_ex, sd7, sd8, sd9, sd10, sd11, sd12, sd13, ppick_n, ppk_s, atp2_0, atp2_1, at5_0, at5_1, at5_2, at5_3, at5_4, at6_0, at6_1, at6_2, at6_3, at6_4, at6_5, at7_0, at7_1, at7_2, at7_3, at7_4, at7_5, at7_6, e7]; rfl
  · simp (implicitDefEqProofs := false) [pb_pr, pb_pz, pb_pb, po_s, po_n, pif_t, pif_f, lift0_pr, pnx_pr, p2_d, p1_d, pB_b, pasB_d, pasT_d, pT_n, pT_b, pT_i, pT_l, pT_t, pchain_d, pandM_d, porM_d, pnotM_d, pandV_d, porV_d, pnotV_d, pite_d, pcons_d, ptup_d, plst_d, pfrz_d, pix_d, ppart_d, pI_i, pslice_d, pcall_d, ptyp_d, pL_l, pN_i, pS_l, pS_t, plis_d, pcat_d, piter_d, prng_d, prev_d, pfn_d, pfnR_d, paug_i, paugX_d, pcomp_d, pcomp2_d, un1_d, un2_t, un3_t, un4_t, pel_d, pel2_d, pend_l, pend_r, sd0, sd1, sd2, sd3, sd4, sd5, sd6, dAdd_int, dSub_int, dLt_int, dLe_int, dGt_int, dGe_int, dFdv_int, dMod_int, dMulR, dMulL, dNeg_int, pow18, dIs_none, dIsN_none, dIs_b, dIsN_b, isNone, dEq_id, dNe_id, dEq_bb, dNe_bb, dIx_l, dIx_t, dSl_l, dSl_t, dLen_l, dLen_t, dInt_i, dTup_l, dTup_t, dAbs_i, items_l, items_t, isDt_n, isDt_i, isDt_b, isDt_s, isDt_t, isDt_l, zO_tt, zO_ll, zO_tl, enO_t, enO_l, dEq_ln, dNe_ln, dEq_lt, dNe_lt, -List.getD_eq_getElem?_getD, -List.map_map, -List.map_take, -List.map_drop, pb_ex, lift0_ex, praise_d, ptry_go, ptry_rt, ptry_ex, sd7, sd8, sd9, sd10, sd11, sd12, sd13, ppick_n, ppk_s, atp2_0, atp2_1, at5_0, at5_1, at5_2, at5_3, at5_4, at6_0, at6_1, at6_2, at6_3, at6_4, at6_5, at7_0, at7_1, at7_2, at7_3, at7_4, at7_5, at7_6, e8]; rfl
  · simp (implicitDefEqProofs := false) [pb_pr, pb_pz, pb_pb, po_s, po_n, pif_t, pif_f, lift0_pr, pnx_pr, p2_d, p1_d, pB_b, pasB_d, pasT_d, pT_n, pT_b, pT_i, pT_l, pT_t, pchain_d, pandM_d, porM_d, pnotM_d, pandV_d, porV_d, pnotV_d, pite_d, pcons_d, ptup_d, plst_d, pfrz_d, pix_d, ppart_d, pI_i, pslice_d, pcall_d, ptyp_d, pL_l, pN_i, pS_l, pS_t, plis_d, pcat_d, piter_d, prng_d, prev_d, pfn_d, pfnR_d, paug_i, paugX_d, pcomp_d, pcomp2_d, un1_d, un2_t, un3_t, un4_t, pel_d, pel2_d, pend_l, pend_r, sd0, sd1, sd2, sd3, sd4, sd5, sd6, dAdd_int, dSub_int, dLt_int, dLe_int, dGt_int, dGe_int, dFdv_int, dMod_int, dMulR, dMulL, dNeg_int, pow18, dIs_none, dIsN_none, dIs_b, dIsN_b, isNone, dEq_id, dNe_id, dEq_bb, dNe_bb, dIx_l, dIx_t, dSl_l, dSl_t, dLen_l, dLen_t, dInt_i, dTup_l, dTup_t, dAbs_i, items_l, items_t, isDt_n, isDt_i, isDt_b, isDt_s, isDt_t, isDt_l, zO_tt, zO_ll, zO_tl, enO_t, enO_l, dEq_ln, dNe_ln, dEq_lt, dNe_lt, -List.getD_eq_getElem?_getD, -List.map_map, -List.map_take, -List.map_drop, pb_ex, lift0_ex, praise_d, ptry_go, ptry_rt, ptry_ex, sd7, sd8, sd9, sd10, sd11, sd12, sd13, ppick_n, ppk_s, atp2_0, atp2_1, at5_0, at5_1, at5_2, at5_3, at5_4, at6_0, at6_1, at6_2, at6_3, at6_4, at6_5, at7_0, at7_1, at7_2, at7_3, at7_4, at7_5, at7_6, e9]; rfl
  · simp (implicitDefEqProofs := false) [pb_pr, pb_pz, pb_pb, po_s, po_n, pif_t, pif_f, lift0_pr, pnx_pr, p2_d, p1_d, pB_b, pasB_d, pasT_d, pT_n, pT_b, pT_i, pT_l, pT_t, pchain_d, pandM_d, porM_d, pnotM_d, pandV_d, porV_d, pnotV_d, pite_d, pcons_d, ptup_d, plst_d, pfrz_d, pix_d, ppart_d, pI_i, pslice_d, pcall_d, ptyp_d, pL_l, pN_i, pS_l, pS_t, plis_d, pcat_d, piter_d, prng_d, prev_d, pfn_d, pfnR_d, paug_i, paugX_d, pcomp_d, pcomp2_d, un1_d, un2_t, un3_t, un4_t, pel_d, pel2_d, pend_l, pend_r, sd0, sd1, sd2, sd3, sd4, sd5, sd6, dAdd_int, dSub_int, dLt_int, dLe_int, dGt_int, dGe_int, dFdv_int, dMod_int, dMulR, dMulL, dNeg_int, pow18, dIs_none, dIsN_none, dIs_b, dIsN_b, isNone, dEq_id, dNe_id, dEq_bb, dNe_bb, dIx_l, dIx_t, dSl_l, dSl_t, dLen_l, dLen_t, dInt_i, dTup_l, dTup_t, dAbs_i, items_l, items_t, isDt_n, isDt_i, isDt_b, isDt_s, isDt_t, isDt_l, zO_tt, zO_ll, zO_tl, enO_t, enO_l, dEq_ln, dNe_ln, dEq_lt, dNe_lt, -List.getD_eq_getElem?_getD, -List.map_map, -List.map_take, -List.map_drop, pb_ex, lift0_ex, praise_d, ptry_go, ptry_rt, ptry_ex, sd7, sd8, sd9, sd10, sd11, sd12, sd13, ppick_n, ppk_s, atp2_0, atp2_1, at5_0, at5_1, at5_2, at5_3, at5_4, at6_0, at6_1, at6_2, at6_3, at6_4, at6_5, at7_0, at7_1, at7_2, at7_3, at7_4, at7_5, at7_6, e10]; rfl
  · simp (implicitDefEqProofs := false) [pb_pr, pb_pz, pb_pb, po_s, po_n, pif_t, pif_f, lift0_pr, pnx_pr, p2_d, p1_d, pB_b, pasB_d, pasT_d, pT_n, pT_b, pT_i, pT_l, pT_t, pchain_d, pandM_d, porM_d, pnotM_d, pandV_d, porV_d, pnotV_d, pite_d, pcons_d, ptup_d, plst_d, pfrz_d, pix_d, ppart_d, pI_i, pslice_d, pcall_d, ptyp_d, pL_l, pN_i, pS_l, pS_t, plis_d, pcat_d, piter_d, prng_d, prev_d, pfn_d, pfnR_d, paug_i, paugX_d, pcomp_d, pcomp2_d, un1_d, un2_t, un3_t, un4_t, pel_d, pel2_d, pend_l, pend_r, sd0, sd1, sd2, sd3, sd4, sd5, sd6, dAdd_int, dSub_int, dLt_int, dLe_int, dGt_int, dGe_int, dFdv_int, dMod_int, dMulR, dMulL, dNeg_int, pow18, dIs_none, dIsN_none, dIs_b, dIsN_b, isNone, dEq_id, dNe_id, dEq_bb, dNe_bb, dIx_l, dIx_t, dSl_l, dSl_t, dLen_l, dLen_t, dInt_i, dTup_l, dTup_t, dAbs_i, items_l, items_t, isDt_n, isDt_i, isDt_b, isDt_s, isDt_t, isDt_l, zO_tt, zO_ll, zO_tl, enO_t, enO_l, dEq_ln, dNe_ln, dEq_lt, dNe_lt, -List.getD_eq_getElem?_getD, -List.map_map, -List.map_take, -List.map_drop, pb_ex, lift0_ex, praise_d, ptry_go, ptry_rt, ptry_ex, sd7, sd8, sd9, sd10, sd11, sd12, sd13, ppick_n, ppk_s, atp2_0, atp2_1, at5_0, at5_1, at5_2, at5_3, at5_4, at6_0, at6_1, at6_2, at6_3, at6_4, at6_5, at7_0, at7_1, at7_2, at7_3, at7_4, at7_5, at7_6, e11]; rfl
  · simp (implicitDefEqProofs := false) [pb_pr, pb_pz, pb_pb, po_s, po_n, pif_t, pif_f, lift0_pr, pnx_pr, p2_d, p1_d, pB_b, pasB_d, pasT_d, pT_n, pT_b, pT_i, pT_l, pT_t, pchain_d, pandM_d, porM_d, pnotM_d, pandV_d, porV_d, pnotV_d, pite_d, pcons_d, ptup_d, plst_d, pfrz_d, pix_d, ppart_d, pI_i, pslice_d, pcall_d, ptyp_d, pL_l, pN_i, pS_l, pS_t, plis_d, pcat_d, piter_d, prng_d, prev_d, pfn_d, pfnR_d, paug_i, paugX_d, pcomp_d, pcomp2_d, un1_d, un2_t, un3_t, un4_t, pel_d, pel2_d, pend_l, pend_r, sd0, sd1, sd2, sd3, sd4, sd5, sd6, dAdd_int, dSub_int, dLt_int, dLe_int, dGt_int, dGe_int, dFdv_int, dMod_int, dMulR, dMulL, dNeg_int, pow18, dIs_none, dIsN_none, dIs_b, dIsN_b, isNone, dEq_id, dNe_id, dEq_bb, dNe_bb, dIx_l, dIx_t, dSl_l, dSl_t, dLen_l, dLen_t, dInt_i, dTup_l, dTup_t, dAbs_i, items_l, items_t, isDt_n, isDt_i, isDt_b, isDt_s, isDt_t, isDt_l, zO_tt, zO_ll, zO_tl, enO_t, enO_l, dEq_ln, dNe_ln, dEq_lt, dNe_lt, -List.getD_eq_getElem?_getD, -List.map_map, -List.map_take, -List.map_drop, pb_ex, lift0_ex, praise_d, ptry_go, ptry_rt, ptry_ex, sd7, sd8, sd9, sd10, sd11, sd12, sd13, ppick_n, ppk_s, atp2_0, atp2_1, at5_0, at5_1, at5_2, at5_3, at5_4, at6_0, at6_1, at6_2, at6_3, at6_4, at6_5, at7_0, at7_1, at7_2, at7_3, at7_4, at7_5, at7_6, e12]; rfl
end
theorem ent_all {d : List Int} {n : Nat} (h : Ent d n) : ∀ y ∈ iL d, entB y = true := fun y hy => by
  obtain ⟨i, hi, rfl⟩ := List.mem_map.1 hy
  have := h.2 i hi
  show (decide (0 ≤ i) && decide (i ≤ 999)) = true
  simp; omega
end DN

namespace DN
open PySem PySem.Spec L2
end DN

namespace DN
open PySem PySem.Spec L2
section
variable {v z p i P P' : Dt} {n n' : Nat} {d s u h d' s' u' h' : List Int}
theorem t3 (H : Rf v (xPb p i)) {w : Nat} (hw : w < 3) : P__law_told_3 [.int (w : Int), v, z] = pr (.tuple [.str (Str.ofString "problem"), p, i]) := by
  have e0 := H.by_stock_rows
  have e1 := H.firm
  have e2 := H.joined (w := z)
  have key : ∀ w : Nat, w < 3 → w = 0 ∨ w = 1 ∨ w = 2 := by omega
  unfold P__law_told_3
  rcases key w hw with rfl | rfl | rfl
  · simp (implicitDefEqProofs := false) [pb_pr, pb_pz, pb_pb, po_s, po_n, pif_t, pif_f, lift0_pr, pnx_pr, p2_d, p1_d, pB_b, pasB_d, pasT_d, pT_n, pT_b, pT_i, pT_l, pT_t, pchain_d, pandM_d, porM_d, pnotM_d, pandV_d, porV_d, pnotV_d, pite_d, pcons_d, ptup_d, plst_d, pfrz_d, pix_d, ppart_d, pI_i, pslice_d, pcall_d, ptyp_d, pL_l, pN_i, pS_l, pS_t, plis_d, pcat_d, piter_d, prng_d, prev_d, pfn_d, pfnR_d, paug_i, paugX_d, pcomp_d, pcomp2_d, un1_d, un2_t, un3_t, un4_t, pel_d, pel2_d, pend_l, pend_r, sd0, sd1, sd2, sd3, sd4, sd5, sd6, dAdd_int, dSub_int, dLt_int, dLe_int, dGt_int, dGe_int, dFdv_int, dMod_int, dMulR, dMulL, dNeg_int, pow18, dIs_none, dIsN_none, dIs_b, dIsN_b, isNone, dEq_id, dNe_id, dEq_bb, dNe_bb, dIx_l, dIx_t, dSl_l, dSl_t, dLen_l, dLen_t, dInt_i, dTup_l, dTup_t, dAbs_i, items_l, items_t, isDt_n, isDt_i, isDt_b, isDt_s, isDt_t, isDt_l, zO_tt, zO_ll, zO_tl, enO_t, enO_l, dEq_ln, dNe_ln, dEq_lt, dNe_lt, -List.getD_eq_getElem?_getD, -List.map_map, -List.map_take, -List.map_drop, pb_ex, lift0_ex, praise_d, ptry_go, ptry_rt, ptry_ex, sd7, sd8, sd9, sd10, sd11, sd12, sd13, ppick_n, ppk_s, atp2_0, atp2_1, at5_0, at5_1, at5_2, at5_3, at5_4, at6_0, at6_1, at6_2, at6_3, at6_4, at6_5, at7_0, at7_1, at7_2, at7_3, at7_4, at7_5, at7_6, e0]; rfl
  · simp (implicitDefEqProofs := false) [pb_pr, pb_pz, pb_pb, po_s, po_n, pif_t, pif_f, lift0_pr, pnx_pr, p2_d, p1_d, pB_b, pasB_d, pasT_d, pT_n, pT_b, pT_i, pT_l, pT_t, pchain_d, pandM_d, porM_d, pnotM_d, pandV_d, porV_d, pnotV_d, pite_d, pcons_d, ptup_d, plst_d, pfrz_d, pix_d, ppart_d, pI_i, pslice_d, pcall_d, ptyp_d, pL_l, pN_i, pS_l, pS_t, plis_d, pcat_d, piter_d, prng_d, prev_d, pfn_d, pfnR_d, paug_i, paugX_d, pcomp_d, pcomp2_d, un1_d, un2_t, un3_t, un4_t, pel_d, pel2_d, pend_l, pend_r, sd0, sd1, sd2, sd3, sd4, sd5, sd6, dAdd_int, dSub_int, dLt_int, dLe_int, dGt_int, dGe_int, dFdv_int, dMod_int, dMulR, dMulL, dNeg_int, pow18, dIs_none, dIsN_none, dIs_b, dIsN_b, isNone, dEq_id, dNe_id, dEq_bb, dNe_bb, dIx_l, dIx_t, dSl_l, dSl_t, dLen_l, dLen_t, dInt_i, dTup_l, dTup_t, dAbs_i, items_l, items_t, isDt_n, isDt_i, isDt_b, isDt_s, isDt_t, isDt_l, zO_tt, zO_ll, zO_tl, enO_t, enO_l, dEq_ln, dNe_ln, dEq_lt, dNe_lt, -List.getD_eq_getElem?_getD, -List.map_map, -List.map_take, -List.map_drop, pb_ex, lift0_ex, praise_d, ptry_go, ptry_rt, ptry_ex, sd7, sd8, sd9, sd10, sd11, sd12, sd13, ppick_n, ppk_s, atp2_0, atp2_1, at5_0, at5_1, at5_2, at5_3, at5_4, at6_0, at6_1, at6_2, at6_3, at6_4, at6_5, at7_0, at7_1, at7_2, at7_3, at7_4, at7_5, at7_6, e1]; rfl
  · simp (implicitDefEqProofs := false) [pb_pr, pb_pz, pb_pb, po_s, po_n, pif_t, pif_f, lift0_pr, pnx_pr, p2_d, p1_d, pB_b, pasB_d, pasT_d, pT_n, pT_b, pT_i, pT_l, pT_t, pchain_d, pandM_d, porM_d, pnotM_d, pandV_d, porV_d, pnotV_d, pite_d, pcons_d, ptup_d, plst_d, pfrz_d, pix_d, ppart_d, pI_i, pslice_d, pcall_d, ptyp_d, pL_l, pN_i, pS_l, pS_t, plis_d, pcat_d, piter_d, prng_d, prev_d, pfn_d, pfnR_d, paug_i, paugX_d, pcomp_d, pcomp2_d, un1_d, un2_t, un3_t, un4_t, pel_d, pel2_d, pend_l, pend_r, sd0, sd1, sd2, sd3, sd4, sd5, sd6, dAdd_int, dSub_int, dLt_int, dLe_int, dGt_int, dGe_int, dFdv_int, dMod_int, dMulR, dMulL, dNeg_int, pow18, dIs_none, dIsN_none, dIs_b, dIsN_b, isNone, dEq_id, dNe_id, dEq_bb, dNe_bb, dIx_l, dIx_t, dSl_l, dSl_t, dLen_l, dLen_t, dInt_i, dTup_l, dTup_t, dAbs_i, items_l, items_t, isDt_n, isDt_i, isDt_b, isDt_s, isDt_t, isDt_l, zO_tt, zO_ll, zO_tl, enO_t, enO_l, dEq_ln, dNe_ln, dEq_lt, dNe_lt, -List.getD_eq_getElem?_getD, -List.map_map, -List.map_take, -List.map_drop, pb_ex, lift0_ex, praise_d, ptry_go, ptry_rt, ptry_ex, sd7, sd8, sd9, sd10, sd11, sd12, sd13, ppick_n, ppk_s, atp2_0, atp2_1, at5_0, at5_1, at5_2, at5_3, at5_4, at6_0, at6_1, at6_2, at6_3, at6_4, at6_5, at7_0, at7_1, at7_2, at7_3, at7_4, at7_5, at7_6, e2]; rfl
end
end DN

namespace DN
open PySem PySem.Spec L2
theorem cut_lastq {α : Type} {ds : List α} : cutL ds none (some (-1)) = ds.take (ds.length - 1) := by
  have e0 : HT.sIx ds.length 0 none = 0 := rfl
  have e1 : HT.sIx ds.length ds.length (some (-1)) = ds.length - 1 := by
    simp [HT.sIx]; omega
  unfold cutL
  rw [e0, e1]; simp
end DN

namespace DN
open PySem PySem.Spec L2
section
variable {v z z2 p i P : Dt} {n : Nat} {d s u h f : List Int}
end
end DN

namespace DN
open PySem PySem.Spec L2
section
variable {v P : Dt} {n : Nat} {d s u h f : List Int}
end
end DN

namespace DN
open PySem PySem.Spec L2
section
variable {p : Pr} {N : Nat}
theorem amt_sumq (p : Pr) (a : Nat) : ∀ m, sumF p.d (a + m) = sumF p.d a + p.amt a m
  | 0 => by show sumF p.d a = sumF p.d a + 0; omega
  | m + 1 => by
    have ih := amt_sumq p a m
    show sumF p.d (a + m) + p.d (a + m) = sumF p.d a + (p.amt a m + p.d (a + m))
    omega
end
end DN

namespace DN
open PySem PySem.Spec L2
section
variable {P : Dt} {n : Nat} {d s u h f : List Int} {t : List Nat}
end
end DN

namespace DN
open PySem PySem.Spec L2
section
variable {P : Dt} {n : Nat} {d s u h f : List Int} {t : List Nat}
end
end DN

namespace DN
open PySem PySem.Spec L2
section
variable {v z p i P : Dt} {n : Nat} {d s u h f : List Int} {t : List Nat}
end
end DN

noncomputable section
namespace DN
open PySem PySem.Spec L2
end DN
end

namespace DN
open PySem PySem.Spec L2
section
variable {v p i P : Dt} {n : Nat} {d s u h f : List Int} {t : List Nat}
end
end DN

namespace DN
open PySem PySem.Spec L2
section
variable {v p i P : Dt} {n : Nat} {d s u h f : List Int} {t : List Nat}
end
end DN

namespace DN
open PySem PySem.Spec L2
section
variable {v p i P : Dt} {n : Nat} {d s u h f : List Int} {t : List Nat}
end
end DN

namespace DN
open PySem PySem.Spec L2
end DN

namespace DN
open PySem PySem.Spec L2
section
variable {v w b P : Dt} {n m : Nat} {d s u h : List Int}
theorem ae_list {ds : List Dt} {m : Int} (hm : (ds.length : Int) = m) (hs : ds.length ≤ 1000) (nd : ∀ e ∈ ds, isDt e = false) : P_are_entries [.tuple ds, .int m] = pr (.bool (ds.all entB)) := by
  have e := P_is_tuple_of_all (v := .tuple ds) (m := m)
  have t : tupB (.tuple ds) m = true := by unfold tupB; simp [hm]
  rw [t] at e
  have m1 := mapP_map (q := pc1_are_entries) id (fun x => PyData.bool (entB x)) ds (fun x hx => by
    have e := P_is_entry_all (nd x hx)
    show pc1_are_entries x = _
    unfold pc1_are_entries
    simp (implicitDefEqProofs := false) [pb_pr, pb_pz, pb_pb, po_s, po_n, pif_t, pif_f, lift0_pr, pnx_pr, p2_d, p1_d, pB_b, pasB_d, pasT_d, pT_n, pT_b, pT_i, pT_l, pT_t, pchain_d, pandM_d, porM_d, pnotM_d, pandV_d, porV_d, pnotV_d, pite_d, pcons_d, ptup_d, plst_d, pfrz_d, pix_d, ppart_d, pI_i, pslice_d, pcall_d, ptyp_d, pL_l, pN_i, pS_l, pS_t, plis_d, pcat_d, piter_d, prng_d, prev_d, pfn_d, pfnR_d, paug_i, paugX_d, pcomp_d, pcomp2_d, un1_d, un2_t, un3_t, un4_t, pel_d, pel2_d, pend_l, pend_r, sd0, sd1, sd2, sd3, sd4, sd5, sd6, dAdd_int, dSub_int, dLt_int, dLe_int, dGt_int, dGe_int, dFdv_int, dMod_int, dMulR, dMulL, dNeg_int, pow18, dIs_none, dIsN_none, dIs_b, dIsN_b, isNone, dEq_id, dNe_id, dEq_bb, dNe_bb, dIx_l, dIx_t, dSl_l, dSl_t, dLen_l, dLen_t, dInt_i, dTup_l, dTup_t, dAbs_i, items_l, items_t, isDt_n, isDt_i, isDt_b, isDt_s, isDt_t, isDt_l, zO_tt, zO_ll, zO_tl, enO_t, enO_l, dEq_ln, dNe_ln, dEq_lt, dNe_lt, -List.getD_eq_getElem?_getD, -List.map_map, -List.map_take, -List.map_drop, e])
  rw [List.map_id] at m1
  have a1 := dAll_map entB ds
  have s1 : decide (ds.length < sizeLine) = true := decide_eq_true (Nat.lt_of_le_of_lt hs (by decide))
  unfold P_are_entries
  generalize ds.map (fun x => PyData.bool (entB x)) = Z at *
  simp (implicitDefEqProofs := false) [pb_pr, pb_pz, pb_pb, po_s, po_n, pif_t, pif_f, lift0_pr, pnx_pr, p2_d, p1_d, pB_b, pasB_d, pasT_d, pT_n, pT_b, pT_i, pT_l, pT_t, pchain_d, pandM_d, porM_d, pnotM_d, pandV_d, porV_d, pnotV_d, pite_d, pcons_d, ptup_d, plst_d, pfrz_d, pix_d, ppart_d, pI_i, pslice_d, pcall_d, ptyp_d, pL_l, pN_i, pS_l, pS_t, plis_d, pcat_d, piter_d, prng_d, prev_d, pfn_d, pfnR_d, paug_i, paugX_d, pcomp_d, pcomp2_d, un1_d, un2_t, un3_t, un4_t, pel_d, pel2_d, pend_l, pend_r, sd0, sd1, sd2, sd3, sd4, sd5, sd6, dAdd_int, dSub_int, dLt_int, dLe_int, dGt_int, dGe_int, dFdv_int, dMod_int, dMulR, dMulL, dNeg_int, pow18, dIs_none, dIsN_none, dIs_b, dIsN_b, isNone, dEq_id, dNe_id, dEq_bb, dNe_bb, dIx_l, dIx_t, dSl_l, dSl_t, dLen_l, dLen_t, dInt_i, dTup_l, dTup_t, dAbs_i, items_l, items_t, isDt_n, isDt_i, isDt_b, isDt_s, isDt_t, isDt_l, zO_tt, zO_ll, zO_tl, enO_t, enO_l, dEq_ln, dNe_ln, dEq_lt, dNe_lt, -List.getD_eq_getElem?_getD, -List.map_map, -List.map_take, -List.map_drop, e, m1, a1, s1]
theorem ase_list {ds : List Dt} {m : Int} (h1 : 1 ≤ ds.length) (h2 : (ds.length : Int) ≤ m) (hs : ds.length ≤ 1000) (nd : ∀ e ∈ ds, isDt e = false) : P_are_some_entries [.tuple ds, .int m] = pr (.bool (ds.all entB)) := by
  have k := kit_tup (.tuple ds)
  have e := ae_list (m := (ds.length : Int)) rfl hs nd
  have c1 : (1 : Int) ≤ (ds.length : Int) := by omega
  unfold P_are_some_entries
  simp (implicitDefEqProofs := false) [pb_pr, pb_pz, pb_pb, po_s, po_n, pif_t, pif_f, lift0_pr, pnx_pr, p2_d, p1_d, pB_b, pasB_d, pasT_d, pT_n, pT_b, pT_i, pT_l, pT_t, pchain_d, pandM_d, porM_d, pnotM_d, pandV_d, porV_d, pnotV_d, pite_d, pcons_d, ptup_d, plst_d, pfrz_d, pix_d, ppart_d, pI_i, pslice_d, pcall_d, ptyp_d, pL_l, pN_i, pS_l, pS_t, plis_d, pcat_d, piter_d, prng_d, prev_d, pfn_d, pfnR_d, paug_i, paugX_d, pcomp_d, pcomp2_d, un1_d, un2_t, un3_t, un4_t, pel_d, pel2_d, pend_l, pend_r, sd0, sd1, sd2, sd3, sd4, sd5, sd6, dAdd_int, dSub_int, dLt_int, dLe_int, dGt_int, dGe_int, dFdv_int, dMod_int, dMulR, dMulL, dNeg_int, pow18, dIs_none, dIsN_none, dIs_b, dIsN_b, isNone, dEq_id, dNe_id, dEq_bb, dNe_bb, dIx_l, dIx_t, dSl_l, dSl_t, dLen_l, dLen_t, dInt_i, dTup_l, dTup_t, dAbs_i, items_l, items_t, isDt_n, isDt_i, isDt_b, isDt_s, isDt_t, isDt_l, zO_tt, zO_ll, zO_tl, enO_t, enO_l, dEq_ln, dNe_ln, dEq_lt, dNe_lt, -List.getD_eq_getElem?_getD, -List.map_map, -List.map_take, -List.map_drop, k, isTp, c1, h2, e]
end
end DN

namespace DN
open PySem PySem.Spec L2
section
variable {v w b P : Dt} {n m : Nat} {d s u h sh : List Int}
theorem ae_row {xs : List Int} (he : Ent xs m) (hm : m ≤ 1000) : P_are_entries [tI xs, .int m] = pr (.bool true) := by
  have e := ae_list (ds := iL xs) (m := m) (by rw [iL_len, he.1]) (by rw [iL_len, he.1]; exact hm) (fun e h => by
    obtain ⟨i, _, rfl⟩ := List.mem_map.1 h
    rfl)
  have a : (iL xs).all entB = true := by
    rw [List.all_eq_true]
    intro x hx
    exact ent_all he x hx
  rw [a] at e
  exact e
def addL : List Int → List Int → List Int
  | a :: as, b :: bs => (a + b) :: addL as bs
  | _, _ => []
theorem addL_len : ∀ {as bs : List Int}, as.length = bs.length → (addL as bs).length = as.length
  | [], _, _ => by simp [addL]
  | a :: as, [], h => by simp at h
  | a :: as, b :: bs, h => by
    show (addL as bs).length + 1 = _
    rw [addL_len (by simpa using h)]; rfl
end
end DN

namespace DN
open PySem PySem.Spec L2
section
variable {v w b P : Dt} {n m k : Nat} {d s u h sh : List Int}
theorem dMulT_x {X : Dt} {n : Nat} (h : n ≤ 1000) : dMulT (.tuple [X]) (.int (n : Int)) = some (.tuple (List.replicate n X)) := by
  have e : (List.replicate n [X]).flatten = List.replicate n X := by
    clear h
    induction n with
    | zero => rfl
    | succ n ih => rw [List.replicate_succ, List.flatten_cons, ih]; rfl
  have c : (decide ([X] ≠ []) && decide (-1000 ≤ (n : Int)) && decide ((n : Int) ≤ 1000) && decide ([X].length ≤ 1000)) = true := by
    rw [dne]
    simp
    omega
  unfold dMulT
  dsimp only
  rw [if_pos c, Int.toNat_natCast, e]
end
end DN

namespace DN
open PySem PySem.Spec L2
section
variable {v w b P : Dt} {n m k : Nat} {d s u h sh : List Int} {Ps : List Dt}
end
end DN

namespace DN
open PySem PySem.Spec L2
end DN

namespace DN
open PySem PySem.Spec L2
abbrev qD (q : Rat) : Dt := .tuple [.int q.num, .int (q.den : Int)]
theorem gcd_d (t b : Int) : dGcd [.int t, .int b] = some (.int ((Nat.gcd t.natAbs b.natAbs : Nat) : Int)) := rfl
theorem fdv_d {i : Int} {g : Nat} (h0 : g ≠ 0) (h1 : g < 1073741824) : dFdv (.int i) (.int (g : Int)) = some (.int (i / (g : Int))) := by
  have e : dFdv (.int i) (.int (g : Int)) = some (.int (i.fdiv (g : Int))) := by
    show (if (decide ((g : Int) ≠ 0) && decide ((g : Int).natAbs < 1073741824)) = true then _ else _) = _
    rw [if_pos]
    simp [h0, h1]
  rw [e, Int.fdiv_eq_ediv_of_nonneg _ (by omega)]
theorem norm_is {t : Int} {b : Nat} (hb : b ≠ 0) : (Rat.normalize t b hb).num = t / ((Nat.gcd t.natAbs b : Nat) : Int) ∧ (((Rat.normalize t b hb).den : Nat) : Int) = (b : Int) / ((Nat.gcd t.natAbs b : Nat) : Int) := by
  rw [Rat.normalize_eq]
  exact ⟨rfl, by simp⟩
theorem P_ratio_ok {t : Int} {b : Nat} (hb : b ≠ 0) (h : b < 1073741824) : P_ratio [.int t, .int (b : Int)] = pr (qD (Rat.normalize t b hb)) := by
  have g := gcd_d t (b : Int)
  rw [Int.natAbs_natCast] at g
  have g0 : Nat.gcd t.natAbs b ≠ 0 := Nat.gcd_ne_zero_right hb
  have g1 : Nat.gcd t.natAbs b < 1073741824 := by
    have := Nat.gcd_le_right t.natAbs (Nat.pos_of_ne_zero hb)
    omega
  have f1 := fdv_d (i := t) g0 g1
  have f2 := fdv_d (i := (b : Int)) g0 g1
  obtain ⟨e1, e2⟩ := norm_is (t := t) hb
  unfold P_ratio qD
  rw [e1, e2]
  generalize ((Nat.gcd t.natAbs b : Nat) : Int) = G at *
  generalize t / G = x1 at *
  generalize (b : Int) / G = x2 at *
  simp (implicitDefEqProofs := false) [pb_pr, pb_pz, pb_pb, po_s, po_n, pif_t, pif_f, lift0_pr, pnx_pr, p2_d, p1_d, pB_b, pasB_d, pasT_d, pT_n, pT_b, pT_i, pT_l, pT_t, pchain_d, pandM_d, porM_d, pnotM_d, pandV_d, porV_d, pnotV_d, pite_d, pcons_d, ptup_d, plst_d, pfrz_d, pix_d, ppart_d, pI_i, pslice_d, pcall_d, ptyp_d, pL_l, pN_i, pS_l, pS_t, plis_d, pcat_d, piter_d, prng_d, prev_d, pfn_d, pfnR_d, paug_i, paugX_d, pcomp_d, pcomp2_d, un1_d, un2_t, un3_t, un4_t, pel_d, pel2_d, pend_l, pend_r, sd0, sd1, sd2, sd3, sd4, sd5, sd6, dAdd_int, dSub_int, dLt_int, dLe_int, dGt_int, dGe_int, dFdv_int, dMod_int, dMulR, dMulL, dNeg_int, pow18, dIs_none, dIsN_none, dIs_b, dIsN_b, isNone, dEq_id, dNe_id, dEq_bb, dNe_bb, dIx_l, dIx_t, dSl_l, dSl_t, dLen_l, dLen_t, dInt_i, dTup_l, dTup_t, dAbs_i, items_l, items_t, isDt_n, isDt_i, isDt_b, isDt_s, isDt_t, isDt_l, zO_tt, zO_ll, zO_tl, enO_t, enO_l, dEq_ln, dNe_ln, dEq_lt, dNe_lt, -List.getD_eq_getElem?_getD, -List.map_map, -List.map_take, -List.map_drop, g, f1, f2]
theorem less_parts {a b : Rat} (ha : a.den < 1073741824) (hb : b.den < 1073741824) : dMul (.int a.num) (.int (b.den : Int)) = some (.int (a.num * (b.den : Int))) ∧ dMul (.int b.num) (.int (a.den : Int)) = some (.int (b.num * (a.den : Int))) := ⟨dMulR (by omega) (by omega), dMulR (by omega) (by omega)⟩
theorem P_is_less_ok {a b : Rat} (ha : a.den < 1073741824) (hb : b.den < 1073741824) : P_is_less [qD a, qD b] = pr (.bool (decide (a < b))) := by
  obtain ⟨m1, m2⟩ := less_parts ha hb
  have e := Rat.lt_iff a b
  unfold P_is_less
  by_cases c : a < b
  · rw [decide_eq_true c]
    have c' := e.mp c
    clear e c
    unfold qD
    generalize a.num * (b.den : Int) = x1 at *
    generalize b.num * (a.den : Int) = x2 at *
    simp (implicitDefEqProofs := false) [pb_pr, pb_pz, pb_pb, po_s, po_n, pif_t, pif_f, lift0_pr, pnx_pr, p2_d, p1_d, pB_b, pasB_d, pasT_d, pT_n, pT_b, pT_i, pT_l, pT_t, pchain_d, pandM_d, porM_d, pnotM_d, pandV_d, porV_d, pnotV_d, pite_d, pcons_d, ptup_d, plst_d, pfrz_d, pix_d, ppart_d, pI_i, pslice_d, pcall_d, ptyp_d, pL_l, pN_i, pS_l, pS_t, plis_d, pcat_d, piter_d, prng_d, prev_d, pfn_d, pfnR_d, paug_i, paugX_d, pcomp_d, pcomp2_d, un1_d, un2_t, un3_t, un4_t, pel_d, pel2_d, pend_l, pend_r, sd0, sd1, sd2, sd3, sd4, sd5, sd6, dAdd_int, dSub_int, dLt_int, dLe_int, dGt_int, dGe_int, dFdv_int, dMod_int, dMulR, dMulL, dNeg_int, pow18, dIs_none, dIsN_none, dIs_b, dIsN_b, isNone, dEq_id, dNe_id, dEq_bb, dNe_bb, dIx_l, dIx_t, dSl_l, dSl_t, dLen_l, dLen_t, dInt_i, dTup_l, dTup_t, dAbs_i, items_l, items_t, isDt_n, isDt_i, isDt_b, isDt_s, isDt_t, isDt_l, zO_tt, zO_ll, zO_tl, enO_t, enO_l, dEq_ln, dNe_ln, dEq_lt, dNe_lt, -List.getD_eq_getElem?_getD, -List.map_map, -List.map_take, -List.map_drop, m1, m2, c', at2_0, at2_1]
  · rw [decide_eq_false c]
    have c' : ¬ a.num * (b.den : Int) < b.num * (a.den : Int) := fun z => c (e.mpr z)
    clear e c
    unfold qD
    generalize a.num * (b.den : Int) = x1 at *
    generalize b.num * (a.den : Int) = x2 at *
    simp (implicitDefEqProofs := false) [pb_pr, pb_pz, pb_pb, po_s, po_n, pif_t, pif_f, lift0_pr, pnx_pr, p2_d, p1_d, pB_b, pasB_d, pasT_d, pT_n, pT_b, pT_i, pT_l, pT_t, pchain_d, pandM_d, porM_d, pnotM_d, pandV_d, porV_d, pnotV_d, pite_d, pcons_d, ptup_d, plst_d, pfrz_d, pix_d, ppart_d, pI_i, pslice_d, pcall_d, ptyp_d, pL_l, pN_i, pS_l, pS_t, plis_d, pcat_d, piter_d, prng_d, prev_d, pfn_d, pfnR_d, paug_i, paugX_d, pcomp_d, pcomp2_d, un1_d, un2_t, un3_t, un4_t, pel_d, pel2_d, pend_l, pend_r, sd0, sd1, sd2, sd3, sd4, sd5, sd6, dAdd_int, dSub_int, dLt_int, dLe_int, dGt_int, dGe_int, dFdv_int, dMod_int, dMulR, dMulL, dNeg_int, pow18, dIs_none, dIsN_none, dIs_b, dIsN_b, isNone, dEq_id, dNe_id, dEq_bb, dNe_bb, dIx_l, dIx_t, dSl_l, dSl_t, dLen_l, dLen_t, dInt_i, dTup_l, dTup_t, dAbs_i, items_l, items_t, isDt_n, isDt_i, isDt_b, isDt_s, isDt_t, isDt_l, zO_tt, zO_ll, zO_tl, enO_t, enO_l, dEq_ln, dNe_ln, dEq_lt, dNe_lt, -List.getD_eq_getElem?_getD, -List.map_map, -List.map_take, -List.map_drop, m1, m2, c', at2_0, at2_1]
theorem P_law_less_ok {a b : Rat} (ha : a.den < 1073741824) (hb : b.den < 1073741824) : P__law_less [qD a, qD b] = pr (.bool (decide (a < b))) := by
  obtain ⟨m1, m2⟩ := less_parts ha hb
  have e := Rat.lt_iff a b
  unfold P__law_less
  by_cases c : a < b
  · rw [decide_eq_true c]
    have c' := e.mp c
    clear e c
    unfold qD
    generalize a.num * (b.den : Int) = x1 at *
    generalize b.num * (a.den : Int) = x2 at *
    simp (implicitDefEqProofs := false) [pb_pr, pb_pz, pb_pb, po_s, po_n, pif_t, pif_f, lift0_pr, pnx_pr, p2_d, p1_d, pB_b, pasB_d, pasT_d, pT_n, pT_b, pT_i, pT_l, pT_t, pchain_d, pandM_d, porM_d, pnotM_d, pandV_d, porV_d, pnotV_d, pite_d, pcons_d, ptup_d, plst_d, pfrz_d, pix_d, ppart_d, pI_i, pslice_d, pcall_d, ptyp_d, pL_l, pN_i, pS_l, pS_t, plis_d, pcat_d, piter_d, prng_d, prev_d, pfn_d, pfnR_d, paug_i, paugX_d, pcomp_d, pcomp2_d, un1_d, un2_t, un3_t, un4_t, pel_d, pel2_d, pend_l, pend_r, sd0, sd1, sd2, sd3, sd4, sd5, sd6, dAdd_int, dSub_int, dLt_int, dLe_int, dGt_int, dGe_int, dFdv_int, dMod_int, dMulR, dMulL, dNeg_int, pow18, dIs_none, dIsN_none, dIs_b, dIsN_b, isNone, dEq_id, dNe_id, dEq_bb, dNe_bb, dIx_l, dIx_t, dSl_l, dSl_t, dLen_l, dLen_t, dInt_i, dTup_l, dTup_t, dAbs_i, items_l, items_t, isDt_n, isDt_i, isDt_b, isDt_s, isDt_t, isDt_l, zO_tt, zO_ll, zO_tl, enO_t, enO_l, dEq_ln, dNe_ln, dEq_lt, dNe_lt, -List.getD_eq_getElem?_getD, -List.map_map, -List.map_take, -List.map_drop, m1, m2, c', at2_0, at2_1]
  · rw [decide_eq_false c]
    have c' : ¬ a.num * (b.den : Int) < b.num * (a.den : Int) := fun z => c (e.mpr z)
    clear e c
    unfold qD
    generalize a.num * (b.den : Int) = x1 at *
    generalize b.num * (a.den : Int) = x2 at *
    simp (implicitDefEqProofs := false) [pb_pr, pb_pz, pb_pb, po_s, po_n, pif_t, pif_f, lift0_pr, pnx_pr, p2_d, p1_d, pB_b, pasB_d, pasT_d, pT_n, pT_b, pT_i, pT_l, pT_t, pchain_d, pandM_d, porM_d, pnotM_d, pandV_d, porV_d, pnotV_d, pite_d, pcons_d, ptup_d, plst_d, pfrz_d, pix_d, ppart_d, pI_i, pslice_d, pcall_d, ptyp_d, pL_l, pN_i, pS_l, pS_t, plis_d, pcat_d, piter_d, prng_d, prev_d, pfn_d, pfnR_d, paug_i, paugX_d, pcomp_d, pcomp2_d, un1_d, un2_t, un3_t, un4_t, pel_d, pel2_d, pend_l, pend_r, sd0, sd1, sd2, sd3, sd4, sd5, sd6, dAdd_int, dSub_int, dLt_int, dLe_int, dGt_int, dGe_int, dFdv_int, dMod_int, dMulR, dMulL, dNeg_int, pow18, dIs_none, dIsN_none, dIs_b, dIsN_b, isNone, dEq_id, dNe_id, dEq_bb, dNe_bb, dIx_l, dIx_t, dSl_l, dSl_t, dLen_l, dLen_t, dInt_i, dTup_l, dTup_t, dAbs_i, items_l, items_t, isDt_n, isDt_i, isDt_b, isDt_s, isDt_t, isDt_l, zO_tt, zO_ll, zO_tl, enO_t, enO_l, dEq_ln, dNe_ln, dEq_lt, dNe_lt, -List.getD_eq_getElem?_getD, -List.map_map, -List.map_take, -List.map_drop, m1, m2, c', at2_0, at2_1]
theorem gmod (a b : Nat) : Nat.gcd a b = Nat.gcd b (a % b) := by rw [Nat.gcd_comm, Nat.gcd_rec, Nat.gcd_comm]
theorem halves {b r : Nat} (h0 : 0 < r) (h : r < b) : 2 * (b % r) < b := by
  have e := Nat.div_add_mod b r
  have m := Nat.mod_lt b h0
  have q : 1 ≤ b / r := Nat.div_pos (Nat.le_of_lt h) h0
  have : r * 1 ≤ r * (b / r) := Nat.mul_le_mul_left r q
  omega
theorem eu_stop (d : Dt) (a : Int) : pl1__law_lowered d (.int a, .int 0) = pr (.stop (.int a, .int 0)) := by
  unfold pl1__law_lowered
  simp (implicitDefEqProofs := false) [pb_pr, pb_pz, pb_pb, po_s, po_n, pif_t, pif_f, lift0_pr, pnx_pr, p2_d, p1_d, pB_b, pasB_d, pasT_d, pT_n, pT_b, pT_i, pT_l, pT_t, pchain_d, pandM_d, porM_d, pnotM_d, pandV_d, porV_d, pnotV_d, pite_d, pcons_d, ptup_d, plst_d, pfrz_d, pix_d, ppart_d, pI_i, pslice_d, pcall_d, ptyp_d, pL_l, pN_i, pS_l, pS_t, plis_d, pcat_d, piter_d, prng_d, prev_d, pfn_d, pfnR_d, paug_i, paugX_d, pcomp_d, pcomp2_d, un1_d, un2_t, un3_t, un4_t, pel_d, pel2_d, pend_l, pend_r, sd0, sd1, sd2, sd3, sd4, sd5, sd6, dAdd_int, dSub_int, dLt_int, dLe_int, dGt_int, dGe_int, dFdv_int, dMod_int, dMulR, dMulL, dNeg_int, pow18, dIs_none, dIsN_none, dIs_b, dIsN_b, isNone, dEq_id, dNe_id, dEq_bb, dNe_bb, dIx_l, dIx_t, dSl_l, dSl_t, dLen_l, dLen_t, dInt_i, dTup_l, dTup_t, dAbs_i, items_l, items_t, isDt_n, isDt_i, isDt_b, isDt_s, isDt_t, isDt_l, zO_tt, zO_ll, zO_tl, enO_t, enO_l, dEq_ln, dNe_ln, dEq_lt, dNe_lt, -List.getD_eq_getElem?_getD, -List.map_map, -List.map_take, -List.map_drop]
theorem eu_go (d : Dt) (a : Nat) {b : Nat} (hb : b ≠ 0) : pl1__law_lowered d (.int (a : Int), .int (b : Int)) = pr (.go (.int (b : Int), .int ((a % b : Nat) : Int))) := by
  have e : dMod (.int (a : Int)) (.int (b : Int)) = some (.int ((a % b : Nat) : Int)) := by
    have e1 : dMod (.int (a : Int)) (.int (b : Int)) = some (.int ((a : Int).fmod (b : Int))) := by
      show (if decide ((b : Int) ≠ 0) = true then _ else _) = _
      rw [if_pos (by simp [hb])]
    rw [e1, Int.fmod_eq_emod_of_nonneg _ (by omega)]
    rfl
  unfold pl1__law_lowered
  simp (implicitDefEqProofs := false) [pb_pr, pb_pz, pb_pb, po_s, po_n, pif_t, pif_f, lift0_pr, pnx_pr, p2_d, p1_d, pB_b, pasB_d, pasT_d, pT_n, pT_b, pT_i, pT_l, pT_t, pchain_d, pandM_d, porM_d, pnotM_d, pandV_d, porV_d, pnotV_d, pite_d, pcons_d, ptup_d, plst_d, pfrz_d, pix_d, ppart_d, pI_i, pslice_d, pcall_d, ptyp_d, pL_l, pN_i, pS_l, pS_t, plis_d, pcat_d, piter_d, prng_d, prev_d, pfn_d, pfnR_d, paug_i, paugX_d, pcomp_d, pcomp2_d, un1_d, un2_t, un3_t, un4_t, pel_d, pel2_d, pend_l, pend_r, sd0, sd1, sd2, sd3, sd4, sd5, sd6, dAdd_int, dSub_int, dLt_int, dLe_int, dGt_int, dGe_int, dFdv_int, dMod_int, dMulR, dMulL, dNeg_int, pow18, dIs_none, dIsN_none, dIs_b, dIsN_b, isNone, dEq_id, dNe_id, dEq_bb, dNe_bb, dIx_l, dIx_t, dSl_l, dSl_t, dLen_l, dLen_t, dInt_i, dTup_l, dTup_t, dAbs_i, items_l, items_t, isDt_n, isDt_i, isDt_b, isDt_s, isDt_t, isDt_l, zO_tt, zO_ll, zO_tl, enO_t, enO_l, dEq_ln, dNe_ln, dEq_lt, dNe_lt, -List.getD_eq_getElem?_getD, -List.map_map, -List.map_take, -List.map_drop, e, hb]
theorem eu_loop : ∀ (k : Nat) (ds : List Dt) (a b : Nat), b < 2 ^ k → 2 * k < ds.length → forP pl1__law_lowered ds (.int (a : Int), .int (b : Int)) = pr (.int ((Nat.gcd a b : Nat) : Int), .int 0)
  | _, [], _, _, _, h => by simp at h
  | k, d :: ds, a, b, hb, hl => by
    by_cases z : b = 0
    · subst z
      show pb (pl1__law_lowered d (.int (a : Int), .int 0)) _ = _
      rw [eu_stop, pb_pr, Nat.gcd_zero_right]
    · have kp : 0 < k := by
        rcases Nat.eq_zero_or_pos k with rfl | h
        · simp at hb; omega
        · exact h
      obtain ⟨k, rfl⟩ : ∃ m, k = m + 1 := ⟨k - 1, by omega⟩
      show pb (pl1__law_lowered d (.int (a : Int), .int (b : Int))) _ = _
      rw [eu_go d a z, pb_pr, gmod a b]
      show forP pl1__law_lowered ds (.int (b : Int), .int ((a % b : Nat) : Int)) = _
      match ds, hl with
      | [], hl => simp at hl
      | d2 :: ds, hl =>
        have lt := Nat.mod_lt a (Nat.pos_of_ne_zero z)
        by_cases z2 : a % b = 0
        · rw [z2]
          show pb (pl1__law_lowered d2 (.int (b : Int), .int 0)) _ = _
          rw [eu_stop, pb_pr, Nat.gcd_zero_right]
        · show pb (pl1__law_lowered d2 (.int (b : Int), .int ((a % b : Nat) : Int))) _ = _
          rw [eu_go d2 b z2, pb_pr, gmod b (a % b)]
          have hv := halves (Nat.pos_of_ne_zero z2) lt
          have pw : 2 ^ (k + 1) = 2 * 2 ^ k := by rw [Nat.pow_succ, Nat.mul_comm]
          exact eu_loop k ds (a % b) (b % (a % b)) (by omega) (by simp at hl; omega)
theorem P_lowered_ok {t : Int} {b : Nat} (hb : b ≠ 0) (h : b < 1073741824) : P__law_lowered [.int t, .int (b : Int)] = pr (qD (Rat.normalize t b hb)) := by
  have g0 : Nat.gcd t.natAbs b ≠ 0 := Nat.gcd_ne_zero_right hb
  have g1 : Nat.gcd t.natAbs b < 1073741824 := by
    have := Nat.gcd_le_right t.natAbs (Nat.pos_of_ne_zero hb)
    omega
  have f1 := fdv_d (i := t) g0 g1
  have f2 := fdv_d (i := (b : Int)) g0 g1
  obtain ⟨e1, e2⟩ := norm_is (t := t) hb
  obtain ⟨Z, rg, zl⟩ : ∃ Z : List Dt, dR1 [.int 2000] = some Z ∧ Z.length = 2000 := ⟨rangeD 0 2000, by
    show (if decide (-(2 ^ 62) ≤ (2000 : Int)) && decide ((2000 : Int) < 2 ^ 62) then some (rangeD 0 (2000 : Int).toNat) else none) = _
    rw [if_pos (by decide)]; rfl, by simp [rangeD]⟩
  have lp := eu_loop 30 Z t.natAbs b (by omega) (by omega)
  have a1 : dAbs [.int t] = some (.int ((t.natAbs : Nat) : Int)) := by
    show some (PyData.int (if t < 0 then -t else t)) = _
    congr 2
    split <;> omega
  have a2 : dAbs [.int (b : Int)] = some (.int (b : Int)) := by
    show some (PyData.int (if (b : Int) < 0 then -(b : Int) else (b : Int))) = _
    rw [if_neg (by omega)]
  have c : (0 : Int) < (b : Int) := by omega
  have m1 : dMul (.int 1) (.int t) = some (.int t) := by rw [dMulL (by omega) (by omega), Int.one_mul]
  have m2 : dMul (.int 1) (.int (b : Int)) = some (.int (b : Int)) := by rw [dMulL (by omega) (by omega), Int.one_mul]
  unfold P__law_lowered qD
  rw [e1, e2]
  generalize ((t.natAbs : Nat) : Int) = T at *
  generalize ((Nat.gcd t.natAbs b : Nat) : Int) = G at *
  generalize t / G = x1 at *
  generalize (b : Int) / G = x2 at *
  generalize (b : Int) = B at *
  simp (implicitDefEqProofs := false) [pb_pr, pb_pz, pb_pb, po_s, po_n, pif_t, pif_f, lift0_pr, pnx_pr, p2_d, p1_d, pB_b, pasB_d, pasT_d, pT_n, pT_b, pT_i, pT_l, pT_t, pchain_d, pandM_d, porM_d, pnotM_d, pandV_d, porV_d, pnotV_d, pite_d, pcons_d, ptup_d, plst_d, pfrz_d, pix_d, ppart_d, pI_i, pslice_d, pcall_d, ptyp_d, pL_l, pN_i, pS_l, pS_t, plis_d, pcat_d, piter_d, prng_d, prev_d, pfn_d, pfnR_d, paug_i, paugX_d, pcomp_d, pcomp2_d, un1_d, un2_t, un3_t, un4_t, pel_d, pel2_d, pend_l, pend_r, sd0, sd1, sd2, sd3, sd4, sd5, sd6, dAdd_int, dSub_int, dLt_int, dLe_int, dGt_int, dGe_int, dFdv_int, dMod_int, dMulR, dMulL, dNeg_int, pow18, dIs_none, dIsN_none, dIs_b, dIsN_b, isNone, dEq_id, dNe_id, dEq_bb, dNe_bb, dIx_l, dIx_t, dSl_l, dSl_t, dLen_l, dLen_t, dInt_i, dTup_l, dTup_t, dAbs_i, items_l, items_t, isDt_n, isDt_i, isDt_b, isDt_s, isDt_t, isDt_l, zO_tt, zO_ll, zO_tl, enO_t, enO_l, dEq_ln, dNe_ln, dEq_lt, dNe_lt, -List.getD_eq_getElem?_getD, -List.map_map, -List.map_take, -List.map_drop, a1, a2, rg, lp, c, m1, m2, f1, f2]
end DN

namespace DN
open PySem PySem.Spec L2
/-- t / b -/
def nz (t : Int) (b : Nat) : Rat := if h : b ≠ 0 then Rat.normalize t b h else 0
theorem nz_of {t : Int} {b : Nat} (h : b ≠ 0) : nz t b = Rat.normalize t b h := dif_pos h
theorem nz_cross {t : Int} {b : Nat} (h : b ≠ 0) : (nz t b).num * (b : Int) = t * ((nz t b).den : Int) := by
  rw [nz_of h]
  obtain ⟨e1, e2⟩ := norm_is (t := t) h
  rw [e1, e2]
  have g0 : 0 < Nat.gcd t.natAbs b := Nat.gcd_pos_of_pos_right _ (Nat.pos_of_ne_zero h)
  have d1 : ((Nat.gcd t.natAbs b : Nat) : Int) ∣ t := Int.ofNat_dvd_left.2 (Nat.gcd_dvd_left _ _)
  have d2 : ((Nat.gcd t.natAbs b : Nat) : Int) ∣ (b : Int) := Int.natCast_dvd_natCast.2 (Nat.gcd_dvd_right _ _)
  obtain ⟨x, hx⟩ := d1
  obtain ⟨y, hy⟩ := d2
  generalize ((Nat.gcd t.natAbs b : Nat) : Int) = g at *
  have gz : g ≠ 0 := by
    intro z
    rw [z, Int.zero_mul] at hy
    omega
  rw [hx, hy, Int.mul_ediv_cancel_left _ gz, Int.mul_ediv_cancel_left _ gz, ← Int.mul_assoc, Int.mul_comm x g]
theorem nz_den {t : Int} {b : Nat} (h : b ≠ 0) : (nz t b).den ≤ b := by
  rw [nz_of h]
  obtain ⟨e1, e2⟩ := norm_is (t := t) h
  have : (((Rat.normalize t b h).den : Nat) : Int) ≤ (b : Int) := by
    rw [e2]
    exact Int.ediv_le_self _ (by omega)
  omega
theorem nz_lt {t t' : Int} {b b' : Nat} (h : b ≠ 0) (h' : b' ≠ 0) : nz t b < nz t' b' ↔ t * (b' : Int) < t' * (b : Int) := by
  rw [Rat.lt_iff]
  have c := nz_cross (t := t) h
  have c' := nz_cross (t := t') h'
  have p : 0 < ((nz t b).den : Int) := by have := (nz t b).den_nz; omega
  have p' : 0 < ((nz t' b').den : Int) := by have := (nz t' b').den_nz; omega
  have q : 0 < (b : Int) := by omega
  have q' : 0 < (b' : Int) := by omega
  generalize (nz t b).num = N at *
  generalize (nz t' b').num = N' at *
  generalize ((nz t b).den : Int) = D at *
  generalize ((nz t' b').den : Int) = D' at *
  generalize (b : Int) = B at *
  generalize (b' : Int) = B' at *
  have l1 : (N * D') * (B * B') = (t * B') * (D * D') := by
    calc (N * D') * (B * B') = (N * B) * (D' * B') := by simp only [Int.mul_assoc, Int.mul_comm, Int.mul_left_comm]
      _ = (t * D) * (D' * B') := by rw [c]
      _ = (t * B') * (D * D') := by simp only [Int.mul_assoc, Int.mul_comm, Int.mul_left_comm]
  have l2 : (N' * D) * (B * B') = (t' * B) * (D * D') := by
    calc (N' * D) * (B * B') = (N' * B') * (D * B) := by simp only [Int.mul_assoc, Int.mul_comm, Int.mul_left_comm]
      _ = (t' * D') * (D * B) := by rw [c']
      _ = (t' * B) * (D * D') := by simp only [Int.mul_assoc, Int.mul_comm, Int.mul_left_comm]
  have bb : 0 < B * B' := Int.mul_pos q q'
  have dd : 0 < D * D' := Int.mul_pos p p'
  constructor
  · intro z
    have z1 := Int.mul_lt_mul_of_pos_right z bb
    rw [l1, l2] at z1
    exact Int.lt_of_mul_lt_mul_right z1 (Int.le_of_lt dd)
  · intro z
    have z1 := Int.mul_lt_mul_of_pos_right z dd
    rw [← l1, ← l2] at z1
    exact Int.lt_of_mul_lt_mul_right z1 (Int.le_of_lt bb)
theorem P_slope_ok {x y : Int} {k g : Nat} (h : k < g) (hg : g < 1073741824) : P_slope [.tuple [.int (k : Int), .int x], .tuple [.int (g : Int), .int y]] = pr (qD (nz (y - x) (g - k))) := by
  have b : g - k ≠ 0 := by omega
  have e := P_ratio_ok (t := y - x) b (by omega)
  rw [show ((g - k : Nat) : Int) = (g : Int) - (k : Int) by omega, ← nz_of b] at e
  have a1 : atI [PyData.int (k : Int), .int x] 1 = some (.int x) := rfl
  have a2 : atI [PyData.int (g : Int), .int y] 1 = some (.int y) := rfl
  have a3 : atI [PyData.int (k : Int), .int x] 0 = some (.int (k : Int)) := rfl
  have a4 : atI [PyData.int (g : Int), .int y] 0 = some (.int (g : Int)) := rfl
  unfold P_slope
  generalize nz (y - x) (g - k) = Q at *
  simp (implicitDefEqProofs := false) [pb_pr, pb_pz, pb_pb, po_s, po_n, pif_t, pif_f, lift0_pr, pnx_pr, p2_d, p1_d, pB_b, pasB_d, pasT_d, pT_n, pT_b, pT_i, pT_l, pT_t, pchain_d, pandM_d, porM_d, pnotM_d, pandV_d, porV_d, pnotV_d, pite_d, pcons_d, ptup_d, plst_d, pfrz_d, pix_d, ppart_d, pI_i, pslice_d, pcall_d, ptyp_d, pL_l, pN_i, pS_l, pS_t, plis_d, pcat_d, piter_d, prng_d, prev_d, pfn_d, pfnR_d, paug_i, paugX_d, pcomp_d, pcomp2_d, un1_d, un2_t, un3_t, un4_t, pel_d, pel2_d, pend_l, pend_r, sd0, sd1, sd2, sd3, sd4, sd5, sd6, dAdd_int, dSub_int, dLt_int, dLe_int, dGt_int, dGe_int, dFdv_int, dMod_int, dMulR, dMulL, dNeg_int, pow18, dIs_none, dIsN_none, dIs_b, dIsN_b, isNone, dEq_id, dNe_id, dEq_bb, dNe_bb, dIx_l, dIx_t, dSl_l, dSl_t, dLen_l, dLen_t, dInt_i, dTup_l, dTup_t, dAbs_i, items_l, items_t, isDt_n, isDt_i, isDt_b, isDt_s, isDt_t, isDt_l, zO_tt, zO_ll, zO_tl, enO_t, enO_l, dEq_ln, dNe_ln, dEq_lt, dNe_lt, -List.getD_eq_getElem?_getD, -List.map_map, -List.map_take, -List.map_drop, a1, a2, a3, a4, e]
end DN

namespace DN
open PySem PySem.Spec L2
abbrev knD (k : Nat) (x : Int) : Dt := .tuple [.int (k : Int), .int x]
section
variable {fl tp : List Int} {n : Nat}
theorem nk_body (hf : fl.length = n + 1) (ht : tp.length = n + 1) (hn : n ≤ 900) {k g a b : Nat} {x y z : Int} (kg : k < g) (gn : g ≤ n) (ka : k < a) (an : a ≤ n) (kb : k < b) (bn : b ≤ n) :
    pl1_next_knot (.list (iL fl)) (.list (iL tp)) (knD k x) (.int (g : Int)) (knD a y, knD b z) = if nz (z - x) (b - k) < nz (at0 fl g - x) (g - k) then pr (.rt (knD b z)) else if nz (at0 tp g - x) (g - k) < nz (y - x) (a - k) then pr (.rt (knD a y)) else
      pr (.go (if nz (at0 fl g - x) (g - k) < nz (y - x) (a - k) then knD a y else knD g (at0 fl g), if nz (z - x) (b - k) < nz (at0 tp g - x) (g - k) then knD b z else knD g (at0 tp g))) := by
  have e1 := atI_at0 (f := fl) (i := g) (by omega)
  have e2 := atI_at0 (f := tp) (i := g) (by omega)
  have s1 := P_slope_ok (x := x) (y := z) kb (by omega)
  have s2 := P_slope_ok (x := x) (y := at0 fl g) kg (by omega)
  have s3 := P_slope_ok (x := x) (y := at0 tp g) kg (by omega)
  have s4 := P_slope_ok (x := x) (y := y) ka (by omega)
  have d1 := nz_den (t := z - x) (b := b - k) (by omega)
  have d2 := nz_den (t := at0 fl g - x) (b := g - k) (by omega)
  have d3 := nz_den (t := at0 tp g - x) (b := g - k) (by omega)
  have d4 := nz_den (t := y - x) (b := a - k) (by omega)
  generalize nz (z - x) (b - k) = Z1 at *
  generalize nz (at0 fl g - x) (g - k) = Z2 at *
  generalize nz (at0 tp g - x) (g - k) = Z3 at *
  generalize nz (y - x) (a - k) = Z4 at *
  have l1 := P_is_less_ok (a := Z1) (b := Z2) (by omega) (by omega)
  have l2 := P_is_less_ok (a := Z3) (b := Z4) (by omega) (by omega)
  have l3 := P_is_less_ok (a := Z2) (b := Z4) (by omega) (by omega)
  have l4 := P_is_less_ok (a := Z1) (b := Z3) (by omega) (by omega)
  unfold pl1_next_knot
  generalize at0 fl g = f0 at *
  generalize at0 tp g = t0 at *
  generalize qD Z1 = Q1 at *
  generalize qD Z2 = Q2 at *
  generalize qD Z3 = Q3 at *
  generalize qD Z4 = Q4 at *
  by_cases c1 : Z1 < Z2
  · simp (implicitDefEqProofs := false) [pb_pr, pb_pz, pb_pb, po_s, po_n, pif_t, pif_f, lift0_pr, pnx_pr, p2_d, p1_d, pB_b, pasB_d, pasT_d, pT_n, pT_b, pT_i, pT_l, pT_t, pchain_d, pandM_d, porM_d, pnotM_d, pandV_d, porV_d, pnotV_d, pite_d, pcons_d, ptup_d, plst_d, pfrz_d, pix_d, ppart_d, pI_i, pslice_d, pcall_d, ptyp_d, pL_l, pN_i, pS_l, pS_t, plis_d, pcat_d, piter_d, prng_d, prev_d, pfn_d, pfnR_d, paug_i, paugX_d, pcomp_d, pcomp2_d, un1_d, un2_t, un3_t, un4_t, pel_d, pel2_d, pend_l, pend_r, sd0, sd1, sd2, sd3, sd4, sd5, sd6, dAdd_int, dSub_int, dLt_int, dLe_int, dGt_int, dGe_int, dFdv_int, dMod_int, dMulR, dMulL, dNeg_int, pow18, dIs_none, dIsN_none, dIs_b, dIsN_b, isNone, dEq_id, dNe_id, dEq_bb, dNe_bb, dIx_l, dIx_t, dSl_l, dSl_t, dLen_l, dLen_t, dInt_i, dTup_l, dTup_t, dAbs_i, items_l, items_t, isDt_n, isDt_i, isDt_b, isDt_s, isDt_t, isDt_l, zO_tt, zO_ll, zO_tl, enO_t, enO_l, dEq_ln, dNe_ln, dEq_lt, dNe_lt, -List.getD_eq_getElem?_getD, -List.map_map, -List.map_take, -List.map_drop, e1, e2, s1, s2, s3, s4, l1, l2, l3, l4, c1]
  · by_cases c2 : Z3 < Z4
    · simp (implicitDefEqProofs := false) [pb_pr, pb_pz, pb_pb, po_s, po_n, pif_t, pif_f, lift0_pr, pnx_pr, p2_d, p1_d, pB_b, pasB_d, pasT_d, pT_n, pT_b, pT_i, pT_l, pT_t, pchain_d, pandM_d, porM_d, pnotM_d, pandV_d, porV_d, pnotV_d, pite_d, pcons_d, ptup_d, plst_d, pfrz_d, pix_d, ppart_d, pI_i, pslice_d, pcall_d, ptyp_d, pL_l, pN_i, pS_l, pS_t, plis_d, pcat_d, piter_d, prng_d, prev_d, pfn_d, pfnR_d, paug_i, paugX_d, pcomp_d, pcomp2_d, un1_d, un2_t, un3_t, un4_t, pel_d, pel2_d, pend_l, pend_r, sd0, sd1, sd2, sd3, sd4, sd5, sd6, dAdd_int, dSub_int, dLt_int, dLe_int, dGt_int, dGe_int, dFdv_int, dMod_int, dMulR, dMulL, dNeg_int, pow18, dIs_none, dIsN_none, dIs_b, dIsN_b, isNone, dEq_id, dNe_id, dEq_bb, dNe_bb, dIx_l, dIx_t, dSl_l, dSl_t, dLen_l, dLen_t, dInt_i, dTup_l, dTup_t, dAbs_i, items_l, items_t, isDt_n, isDt_i, isDt_b, isDt_s, isDt_t, isDt_l, zO_tt, zO_ll, zO_tl, enO_t, enO_l, dEq_ln, dNe_ln, dEq_lt, dNe_lt, -List.getD_eq_getElem?_getD, -List.map_map, -List.map_take, -List.map_drop, e1, e2, s1, s2, s3, s4, l1, l2, l3, l4, c1, c2]
    · by_cases c3 : Z2 < Z4
      · by_cases c4 : Z1 < Z3
        · simp (implicitDefEqProofs := false) [pb_pr, pb_pz, pb_pb, po_s, po_n, pif_t, pif_f, lift0_pr, pnx_pr, p2_d, p1_d, pB_b, pasB_d, pasT_d, pT_n, pT_b, pT_i, pT_l, pT_t, pchain_d, pandM_d, porM_d, pnotM_d, pandV_d, porV_d, pnotV_d, pite_d, pcons_d, ptup_d, plst_d, pfrz_d, pix_d, ppart_d, pI_i, pslice_d, pcall_d, ptyp_d, pL_l, pN_i, pS_l, pS_t, plis_d, pcat_d, piter_d, prng_d, prev_d, pfn_d, pfnR_d, paug_i, paugX_d, pcomp_d, pcomp2_d, un1_d, un2_t, un3_t, un4_t, pel_d, pel2_d, pend_l, pend_r, sd0, sd1, sd2, sd3, sd4, sd5, sd6, dAdd_int, dSub_int, dLt_int, dLe_int, dGt_int, dGe_int, dFdv_int, dMod_int, dMulR, dMulL, dNeg_int, pow18, dIs_none, dIsN_none, dIs_b, dIsN_b, isNone, dEq_id, dNe_id, dEq_bb, dNe_bb, dIx_l, dIx_t, dSl_l, dSl_t, dLen_l, dLen_t, dInt_i, dTup_l, dTup_t, dAbs_i, items_l, items_t, isDt_n, isDt_i, isDt_b, isDt_s, isDt_t, isDt_l, zO_tt, zO_ll, zO_tl, enO_t, enO_l, dEq_ln, dNe_ln, dEq_lt, dNe_lt, -List.getD_eq_getElem?_getD, -List.map_map, -List.map_take, -List.map_drop, e1, e2, s1, s2, s3, s4, l1, l2, l3, l4, c1, c2, c3, c4]
        · simp (implicitDefEqProofs := false) [pb_pr, pb_pz, pb_pb, po_s, po_n, pif_t, pif_f, lift0_pr, pnx_pr, p2_d, p1_d, pB_b, pasB_d, pasT_d, pT_n, pT_b, pT_i, pT_l, pT_t, pchain_d, pandM_d, porM_d, pnotM_d, pandV_d, porV_d, pnotV_d, pite_d, pcons_d, ptup_d, plst_d, pfrz_d, pix_d, ppart_d, pI_i, pslice_d, pcall_d, ptyp_d, pL_l, pN_i, pS_l, pS_t, plis_d, pcat_d, piter_d, prng_d, prev_d, pfn_d, pfnR_d, paug_i, paugX_d, pcomp_d, pcomp2_d, un1_d, un2_t, un3_t, un4_t, pel_d, pel2_d, pend_l, pend_r, sd0, sd1, sd2, sd3, sd4, sd5, sd6, dAdd_int, dSub_int, dLt_int, dLe_int, dGt_int, dGe_int, dFdv_int, dMod_int, dMulR, dMulL, dNeg_int, pow18, dIs_none, dIsN_none, dIs_b, dIsN_b, isNone, dEq_id, dNe_id, dEq_bb, dNe_bb, dIx_l, dIx_t, dSl_l, dSl_t, dLen_l, dLen_t, dInt_i, dTup_l, dTup_t, dAbs_i, items_l, items_t, isDt_n, isDt_i, isDt_b, isDt_s, isDt_t, isDt_l, zO_tt, zO_ll, zO_tl, enO_t, enO_l, dEq_ln, dNe_ln, dEq_lt, dNe_lt, -List.getD_eq_getElem?_getD, -List.map_map, -List.map_take, -List.map_drop, e1, e2, s1, s2, s3, s4, l1, l2, l3, l4, c1, c2, c3, c4]
      · by_cases c4 : Z1 < Z3
        · simp (implicitDefEqProofs := false) [pb_pr, pb_pz, pb_pb, po_s, po_n, pif_t, pif_f, lift0_pr, pnx_pr, p2_d, p1_d, pB_b, pasB_d, pasT_d, pT_n, pT_b, pT_i, pT_l, pT_t, pchain_d, pandM_d, porM_d, pnotM_d, pandV_d, porV_d, pnotV_d, pite_d, pcons_d, ptup_d, plst_d, pfrz_d, pix_d, ppart_d, pI_i, pslice_d, pcall_d, ptyp_d, pL_l, pN_i, pS_l, pS_t, plis_d, pcat_d, piter_d, prng_d, prev_d, pfn_d, pfnR_d, paug_i, paugX_d, pcomp_d, pcomp2_d, un1_d, un2_t, un3_t, un4_t, pel_d, pel2_d, pend_l, pend_r, sd0, sd1, sd2, sd3, sd4, sd5, sd6, dAdd_int, dSub_int, dLt_int, dLe_int, dGt_int, dGe_int, dFdv_int, dMod_int, dMulR, dMulL, dNeg_int, pow18, dIs_none, dIsN_none, dIs_b, dIsN_b, isNone, dEq_id, dNe_id, dEq_bb, dNe_bb, dIx_l, dIx_t, dSl_l, dSl_t, dLen_l, dLen_t, dInt_i, dTup_l, dTup_t, dAbs_i, items_l, items_t, isDt_n, isDt_i, isDt_b, isDt_s, isDt_t, isDt_l, zO_tt, zO_ll, zO_tl, enO_t, enO_l, dEq_ln, dNe_ln, dEq_lt, dNe_lt, -List.getD_eq_getElem?_getD, -List.map_map, -List.map_take, -List.map_drop, e1, e2, s1, s2, s3, s4, l1, l2, l3, l4, c1, c2, c3, c4]
        · simp (implicitDefEqProofs := false) [pb_pr, pb_pz, pb_pb, po_s, po_n, pif_t, pif_f, lift0_pr, pnx_pr, p2_d, p1_d, pB_b, pasB_d, pasT_d, pT_n, pT_b, pT_i, pT_l, pT_t, pchain_d, pandM_d, porM_d, pnotM_d, pandV_d, porV_d, pnotV_d, pite_d, pcons_d, ptup_d, plst_d, pfrz_d, pix_d, ppart_d, pI_i, pslice_d, pcall_d, ptyp_d, pL_l, pN_i, pS_l, pS_t, plis_d, pcat_d, piter_d, prng_d, prev_d, pfn_d, pfnR_d, paug_i, paugX_d, pcomp_d, pcomp2_d, un1_d, un2_t, un3_t, un4_t, pel_d, pel2_d, pend_l, pend_r, sd0, sd1, sd2, sd3, sd4, sd5, sd6, dAdd_int, dSub_int, dLt_int, dLe_int, dGt_int, dGe_int, dFdv_int, dMod_int, dMulR, dMulL, dNeg_int, pow18, dIs_none, dIsN_none, dIs_b, dIsN_b, isNone, dEq_id, dNe_id, dEq_bb, dNe_bb, dIx_l, dIx_t, dSl_l, dSl_t, dLen_l, dLen_t, dInt_i, dTup_l, dTup_t, dAbs_i, items_l, items_t, isDt_n, isDt_i, isDt_b, isDt_s, isDt_t, isDt_l, zO_tt, zO_ll, zO_tl, enO_t, enO_l, dEq_ln, dNe_ln, dEq_lt, dNe_lt, -List.getD_eq_getElem?_getD, -List.map_map, -List.map_take, -List.map_drop, e1, e2, s1, s2, s3, s4, l1, l2, l3, l4, c1, c2, c3, c4]
/-- the loop's answer from a state -/
def nkR (fl tp : List Int) (k : Nat) (x : Int) (q j : Nat) (s : Dt × Dt) : M Unit Dt := pb (forR (pl1_next_knot (.list (iL fl)) (.list (iL tp)) (knD k x)) ((List.range q).map fun (i : Nat) => PyData.int ((k + 1 + j + i : Nat) : Int)) s) (pend (fun s_1 => pb (pr s_1.1) fun d_ => pr d_) fun d_ => pr d_)
theorem nkR_end {k : Nat} {x : Int} {j : Nat} {s : Dt × Dt} : nkR fl tp k x 0 j s = pr s.1 := rfl
theorem nkR_go {k : Nat} {x : Int} {q j : Nat} {s s' : Dt × Dt} (h : pl1_next_knot (.list (iL fl)) (.list (iL tp)) (knD k x) (.int ((k + 1 + j : Nat) : Int)) s = pr (.go s')) : nkR fl tp k x (q + 1) j s = nkR fl tp k x q (j + 1) s' := by
  unfold nkR
  rw [List.range_succ_eq_map, List.map_cons, List.map_map]
  have e : forR (pl1_next_knot (.list (iL fl)) (.list (iL tp)) (knD k x)) (PyData.int ((k + 1 + j + 0 : Nat) : Int) :: (List.range q).map ((fun (i : Nat) => PyData.int ((k + 1 + j + i : Nat) : Int)) ∘ Nat.succ)) s = forR (pl1_next_knot (.list (iL fl)) (.list (iL tp)) (knD k x)) ((List.range q).map fun (i : Nat) => PyData.int ((k + 1 + (j + 1) + i : Nat) : Int)) s' := by
    show pb (pl1_next_knot _ _ _ (.int ((k + 1 + j : Nat) : Int)) s) _ = _
    rw [h, pb_pr]
    show forR (pl1_next_knot (.list (iL fl)) (.list (iL tp)) (knD k x)) ((List.range q).map ((fun (i : Nat) => PyData.int ((k + 1 + j + i : Nat) : Int)) ∘ Nat.succ)) s' = _
    congr 1
    refine List.map_congr_left fun i _ => ?_
    show PyData.int ((k + 1 + j + (i + 1) : Nat) : Int) = _
    rw [show k + 1 + j + (i + 1) = k + 1 + (j + 1) + i by omega]
  rw [e]
theorem nkR_rt {k : Nat} {x : Int} {q j : Nat} {s : Dt × Dt} {d : Dt} (h : pl1_next_knot (.list (iL fl)) (.list (iL tp)) (knD k x) (.int ((k + 1 + j : Nat) : Int)) s = pr (.rt d)) : nkR fl tp k x (q + 1) j s = pr d := by
  unfold nkR
  rw [List.range_succ_eq_map, List.map_cons]
  have e : forR (pl1_next_knot (.list (iL fl)) (.list (iL tp)) (knD k x)) (PyData.int ((k + 1 + j + 0 : Nat) : Int) :: ((List.range q).map Nat.succ).map fun (i : Nat) => PyData.int ((k + 1 + j + i : Nat) : Int)) s = pr (.inr d) := by
    show pb (pl1_next_knot _ _ _ (.int ((k + 1 + j : Nat) : Int)) s) _ = _
    rw [h, pb_pr]
  rw [e]
  rfl
theorem nk_is (hf : fl.length = n + 1) (ht : tp.length = n + 1) (hn : n ≤ 900) {k : Nat} {x : Int} (hk : k < n) : P_next_knot [.list (iL fl), .list (iL tp), knD k x] = nkR fl tp k x (n - k) 0 (knD (k + 1) (at0 fl (k + 1)), knD (k + 1) (at0 tp (k + 1))) := by
  have e1 := atI_at0 (f := fl) (i := k + 1) (by omega)
  have e2 := atI_at0 (f := tp) (i := k + 1) (by omega)
  have rg := range2 (a := k + 1) (b := n + 1) (by omega) (by omega)
  rw [show n + 1 - (k + 1) = n - k by omega] at rg
  have ll : dLen [.list (iL fl)] = some (.int ((n + 1 : Nat) : Int)) := by rw [dLen_l, iL_len, hf]
  have a3 : dIx (knD k x) (.int 0) = some (.int (k : Int)) := rfl
  have c1 : ((k + 1 : Nat) : Int) = (k : Int) + 1 := by omega
  rw [c1] at e1 e2 rg
  rw [show ((n + 1 : Nat) : Int) = (n : Int) + 1 by omega] at rg ll
  unfold P_next_knot nkR
  rw [show (fun (i : Nat) => PyData.int ((k + 1 + 0 + i : Nat) : Int)) = fun (i : Nat) => PyData.int ((k + 1 + i : Nat) : Int) from rfl]
  show _ = pb (forR (pl1_next_knot (.list (iL fl)) (.list (iL tp)) (knD k x)) _ (.tuple [.int ((k + 1 : Nat) : Int), .int (at0 fl (k + 1))], .tuple [.int ((k + 1 : Nat) : Int), .int (at0 tp (k + 1))])) _
  rw [c1]
  generalize knD k x = KX at *
  generalize (List.range (n - k)).map (fun (i : Nat) => PyData.int ((k + 1 + i : Nat) : Int)) = R at *
  generalize at0 fl (k + 1) = f0 at *
  generalize at0 tp (k + 1) = t0 at *
  generalize iL fl = FL at *
  generalize iL tp = TP at *
  simp (implicitDefEqProofs := false) [pb_pr, pb_pz, pb_pb, po_s, po_n, pif_t, pif_f, lift0_pr, pnx_pr, p2_d, p1_d, pB_b, pasB_d, pasT_d, pT_n, pT_b, pT_i, pT_l, pT_t, pchain_d, pandM_d, porM_d, pnotM_d, pandV_d, porV_d, pnotV_d, pite_d, pcons_d, ptup_d, plst_d, pfrz_d, pix_d, ppart_d, pI_i, pslice_d, pcall_d, ptyp_d, pL_l, pN_i, pS_l, pS_t, plis_d, pcat_d, piter_d, prng_d, prev_d, pfn_d, pfnR_d, paug_i, paugX_d, pcomp_d, pcomp2_d, un1_d, un2_t, un3_t, un4_t, pel_d, pel2_d, pend_l, pend_r, sd0, sd1, sd2, sd3, sd4, sd5, sd6, dAdd_int, dSub_int, dLt_int, dLe_int, dGt_int, dGe_int, dFdv_int, dMod_int, dMulR, dMulL, dNeg_int, pow18, dIs_none, dIsN_none, dIs_b, dIsN_b, isNone, dEq_id, dNe_id, dEq_bb, dNe_bb, dIx_l, dIx_t, dSl_l, dSl_t, dLen_l, dLen_t, dInt_i, dTup_l, dTup_t, dAbs_i, items_l, items_t, isDt_n, isDt_i, isDt_b, isDt_s, isDt_t, isDt_l, zO_tt, zO_ll, zO_tl, enO_t, enO_l, dEq_ln, dNe_ln, dEq_lt, dNe_lt, -List.getD_eq_getElem?_getD, -List.map_map, -List.map_take, -List.map_drop, a3, e1, e2, ll, rg, dIx_l]
end
end DN

namespace DN
open PySem PySem.Spec L2
section
variable {fl tp d : List Int} {n : Nat}
/-- floors: the sums of the demands -/
def Flo (d fl : List Int) (n : Nat) : Prop := fl.length = n + 1 ∧ ∀ g, g ≤ n → at0 fl g = sumF (at0 d) g
/-- the line goes on while demands stay the same -/
def Cst (d : List Int) (k e : Nat) : Prop := ∀ i, k ≤ i → i < e → at0 d i = at0 d k
theorem cst_sum {k : Nat} : ∀ j, Cst d k (k + j) → sumF (at0 d) (k + j) = sumF (at0 d) k + (j : Int) * at0 d k
  | 0, _ => by simp
  | j + 1, h => by
    have ih := cst_sum j fun i a b => h i a (by omega)
    have e := h (k + j) (by omega) (by omega)
    show sumF (at0 d) (k + j) + at0 d (k + j) = _
    rw [ih, e, show ((j + 1 : Nat) : Int) = (j : Int) + 1 by omega, Int.add_mul]
    omega
theorem zero_run (hf : Flo d fl n) (hn : n ≤ 900) {k : Nat} (hk : k < n) : ∀ q j, 1 ≤ j → k + j + q = n → Cst d k (k + j) → ∃ e, k < e ∧ e ≤ n ∧ Cst d k e ∧ nkR fl fl k (sumF (at0 d) k) q j (knD (k + j) (sumF (at0 d) (k + j)), knD (k + j) (sumF (at0 d) (k + j))) = pr (knD e (sumF (at0 d) e))
  | 0, j, h1, h2, h3 => ⟨k + j, by omega, by omega, h3, nkR_end⟩
  | q + 1, j, h1, h2, h3 => by
    have B := nk_body (fl := fl) (tp := fl) hf.1 hf.1 hn (k := k) (g := k + 1 + j) (a := k + j) (b := k + j) (x := sumF (at0 d) k) (y := sumF (at0 d) (k + j)) (z := sumF (at0 d) (k + j)) (by omega) (by omega) (by omega) (by omega) (by omega) (by omega)
    rw [hf.2 (k + 1 + j) (by omega)] at B
    by_cases c1 : nz (sumF (at0 d) (k + j) - sumF (at0 d) k) (k + j - k) < nz (sumF (at0 d) (k + 1 + j) - sumF (at0 d) k) (k + 1 + j - k)
    · rw [if_pos c1] at B
      exact ⟨k + j, by omega, by omega, h3, nkR_rt B⟩
    · rw [if_neg c1] at B
      by_cases c2 : nz (sumF (at0 d) (k + 1 + j) - sumF (at0 d) k) (k + 1 + j - k) < nz (sumF (at0 d) (k + j) - sumF (at0 d) k) (k + j - k)
      · rw [if_pos c2] at B
        exact ⟨k + j, by omega, by omega, h3, nkR_rt B⟩
      · rw [if_neg c2, if_neg c2, if_neg c1] at B
        have h4 : Cst d k (k + (j + 1)) := fun i a b => by
          by_cases c : i < k + j
          · exact h3 i a c
          · have ei : i = k + j := by omega
            subst ei
            rw [nz_lt (by omega) (by omega)] at c1 c2
            have s1 := cst_sum j h3
            have s2 : sumF (at0 d) (k + 1 + j) = sumF (at0 d) (k + j) + at0 d (k + j) := by rw [show k + 1 + j = k + j + 1 by omega]; rfl
            rw [s2, s1] at c1 c2
            rw [show ((k + 1 + j - k : Nat) : Int) = (j : Int) + 1 by omega, show ((k + j - k : Nat) : Int) = (j : Int) by omega] at c1 c2
            generalize at0 d (k + j) = X at *
            generalize at0 d k = Y at *
            generalize sumF (at0 d) k = S at *
            have jp : (0 : Int) < (j : Int) := by omega
            generalize (j : Int) = J at *
            have u1 : (S + J * Y - S) * (J + 1) = J * (Y * (J + 1)) := by
              rw [show S + J * Y - S = J * Y by omega, Int.mul_assoc]
            have u2 : (S + J * Y + X - S) * J = J * (J * Y + X) := by
              rw [show S + J * Y + X - S = J * Y + X by omega, Int.mul_comm]
            rw [u1, u2] at c1 c2
            have v1 : ¬ Y * (J + 1) < J * Y + X := fun w => c1 (Int.mul_lt_mul_of_pos_left w jp)
            have v2 : ¬ J * Y + X < Y * (J + 1) := fun w => c2 (Int.mul_lt_mul_of_pos_left w jp)
            have v3 : Y * (J + 1) = J * Y + Y := by rw [Int.mul_add, Int.mul_one, Int.mul_comm]
            omega
        obtain ⟨e, e1, e2, e3, e4⟩ := zero_run hf hn hk q (j + 1) (by omega) (by omega) h4
        refine ⟨e, e1, e2, e3, ?_⟩
        rw [nkR_go B, show k + 1 + j = k + (j + 1) by omega]
        exact e4
theorem nk_zero (hf : Flo d fl n) (hn : n ≤ 900) {k : Nat} (hk : k < n) : ∃ e, k < e ∧ e ≤ n ∧ Cst d k e ∧ P_next_knot [.list (iL fl), .list (iL fl), knD k (sumF (at0 d) k)] = pr (knD e (sumF (at0 d) e)) := by
  rw [nk_is hf.1 hf.1 hn hk, hf.2 (k + 1) (by omega)]
  have B := nk_body (fl := fl) (tp := fl) hf.1 hf.1 hn (k := k) (g := k + 1 + 0) (a := k + 1) (b := k + 1) (x := sumF (at0 d) k) (y := sumF (at0 d) (k + 1)) (z := sumF (at0 d) (k + 1)) (by omega) (by omega) (by omega) (by omega) (by omega) (by omega)
  rw [hf.2 (k + 1 + 0) (by omega)] at B
  have nl : ¬ nz (sumF (at0 d) (k + 1) - sumF (at0 d) k) (k + 1 - k) < nz (sumF (at0 d) (k + 1 + 0) - sumF (at0 d) k) (k + 1 + 0 - k) := by rw [nz_lt (by omega) (by omega)]; exact Int.lt_irrefl _
  have nl' : ¬ nz (sumF (at0 d) (k + 1 + 0) - sumF (at0 d) k) (k + 1 + 0 - k) < nz (sumF (at0 d) (k + 1) - sumF (at0 d) k) (k + 1 - k) := by rw [nz_lt (by omega) (by omega)]; exact Int.lt_irrefl _
  rw [if_neg nl, if_neg nl', if_neg nl'] at B
  obtain ⟨q, hq⟩ : ∃ q, n - k = q + 1 := ⟨n - k - 1, by omega⟩
  rw [hq, nkR_go B]
  exact zero_run hf hn hk q 1 (by omega) (by omega) fun i a b => by rw [show i = k by omega]
end
end DN

namespace DN
open PySem PySem.Spec L2
section
variable {fl tp d : List Int} {n : Nat}
def slo (d : List Int) (k g : Nat) : Rat := nz (sumF (at0 d) g - sumF (at0 d) k) (g - k)
/-- the last place of the greatest slope, of the first j places -/
def amg (d : List Int) (k : Nat) : Nat → Nat
  | 0 => k + 1
  | j + 1 => if slo d k (k + 1 + j) < slo d k (amg d k j) then amg d k j else k + 1 + j
theorem amg_bd (k : Nat) : ∀ j, k < amg d k j ∧ amg d k j ≤ k + 1 + j
  | 0 => ⟨by show k < k + 1; omega, by show k + 1 ≤ k + 1 + 0; omega⟩
  | j + 1 => by
    have ih := amg_bd k j
    show k < (if _ then _ else _) ∧ (if _ then _ else _) ≤ _
    by_cases c : slo d k (k + 1 + j) < slo d k (amg d k j)
    · rw [if_pos c]; omega
    · rw [if_neg c]; omega
theorem amg_bd1 (k : Nat) {j : Nat} (hj : 1 ≤ j) : amg d k j ≤ k + j := by
  obtain ⟨i, rfl⟩ : ∃ i, j = i + 1 := ⟨j - 1, by omega⟩
  have ih := amg_bd (d := d) k i
  show (if _ then _ else _) ≤ _
  by_cases c : slo d k (k + 1 + i) < slo d k (amg d k i)
  · rw [if_pos c]; omega
  · rw [if_neg c]; omega
def Low (d : List Int) : Prop := ∀ i, 0 ≤ at0 d i ∧ at0 d i ≤ 79
theorem low_sum (h : Low d) {k : Nat} : ∀ j, 0 ≤ sumF (at0 d) (k + j) - sumF (at0 d) k ∧ sumF (at0 d) (k + j) - sumF (at0 d) k ≤ 79 * (j : Int)
  | 0 => by simp
  | j + 1 => by
    have ih := low_sum h (k := k) j
    have a := h (k + j)
    have e : sumF (at0 d) (k + (j + 1)) = sumF (at0 d) (k + j) + at0 d (k + j) := rfl
    rw [e, show ((j + 1 : Nat) : Int) = (j : Int) + 1 by omega]
    omega
theorem far (h : Low d) {k b g : Nat} (kb : k < b) (b8 : b - k ≤ 8) (kg : k < g) : ¬ nz (sumF (at0 d) b + 999 - sumF (at0 d) k) (b - k) < nz (sumF (at0 d) g - sumF (at0 d) k) (g - k) := by
  rw [nz_lt (by omega) (by omega)]
  obtain ⟨x, rfl⟩ : ∃ x, b = k + x := ⟨b - k, by omega⟩
  obtain ⟨y, rfl⟩ : ∃ y, g = k + y := ⟨g - k, by omega⟩
  have s1 := low_sum h (k := k) x
  have s2 := low_sum h (k := k) y
  rw [show k + x - k = x by omega, show k + y - k = y by omega]
  have x8 : (x : Int) ≤ 8 := by omega
  have y1 : (0 : Int) < (y : Int) := by omega
  have x0 : (0 : Int) ≤ (x : Int) := by omega
  generalize sumF (at0 d) (k + x) = A at *
  generalize sumF (at0 d) (k + y) = B at *
  generalize sumF (at0 d) k = S at *
  generalize (x : Int) = X at *
  generalize (y : Int) = Y at *
  have l1 : (B - S) * X ≤ (79 * Y) * X := Int.mul_le_mul_of_nonneg_right s2.2 x0
  have l2 : (79 * Y) * X ≤ (79 * Y) * 8 := Int.mul_le_mul_of_nonneg_left x8 (by omega)
  have l3 : 999 * Y ≤ (A + 999 - S) * Y := Int.mul_le_mul_of_nonneg_right (by omega) (by omega)
  omega
theorem wide_run (hf : Flo d fl n) (ht : tp.length = n + 1) (hw : ∀ g, 1 ≤ g → g < n → at0 tp g = sumF (at0 d) g + 999) (hw2 : at0 tp n = sumF (at0 d) n) (hn : n ≤ 9) (lo : Low d) {k : Nat} (hk : k < n) : ∀ q j, k + j + q = n → ∀ (b : Nat) (z : Int), k < b → b ≤ n → ((b < n ∧ z = sumF (at0 d) b + 999) ∨ (z = sumF (at0 d) n ∧ b = n ∧ k + 1 = n)) →
    nkR fl tp k (sumF (at0 d) k) q j (knD (amg d k j) (sumF (at0 d) (amg d k j)), knD b z) = pr (knD (amg d k (n - k)) (sumF (at0 d) (amg d k (n - k))))
  | 0, j, h1, b, z, b1, b2, b3 => by
    rw [show n - k = j by omega]
    exact nkR_end
  | q + 1, j, h1, b, z, b1, b2, b3 => by
    have am := amg_bd (d := d) k j
    have am2 : amg d k j ≤ n := by
      by_cases c : 1 ≤ j
      · have := amg_bd1 (d := d) k c; omega
      · omega
    have B := nk_body (fl := fl) (tp := tp) hf.1 ht (by omega) (k := k) (g := k + 1 + j) (a := amg d k j) (b := b) (x := sumF (at0 d) k) (y := sumF (at0 d) (amg d k j)) (z := z) (by omega) (by omega) am.1 am2 b1 b2
    rw [hf.2 (k + 1 + j) (by omega)] at B
    have c1 : ¬ nz (z - sumF (at0 d) k) (b - k) < nz (sumF (at0 d) (k + 1 + j) - sumF (at0 d) k) (k + 1 + j - k) := by
      rcases b3 with ⟨c, rfl⟩ | ⟨rfl, rfl, c⟩
      · exact far lo b1 (by omega) (by omega)
      · rw [show k + 1 + j = b by omega, nz_lt (by omega) (by omega)]
        exact Int.lt_irrefl _
    rw [if_neg c1] at B
    have nxt : (if nz (sumF (at0 d) (k + 1 + j) - sumF (at0 d) k) (k + 1 + j - k) < nz (sumF (at0 d) (amg d k j) - sumF (at0 d) k) (amg d k j - k) then knD (amg d k j) (sumF (at0 d) (amg d k j)) else knD (k + 1 + j) (sumF (at0 d) (k + 1 + j))) = knD (amg d k (j + 1)) (sumF (at0 d) (amg d k (j + 1))) := by
      show _ = knD (if slo d k (k + 1 + j) < slo d k (amg d k j) then amg d k j else k + 1 + j) (sumF (at0 d) (if slo d k (k + 1 + j) < slo d k (amg d k j) then amg d k j else k + 1 + j))
      by_cases c : slo d k (k + 1 + j) < slo d k (amg d k j)
      · have c' : nz (sumF (at0 d) (k + 1 + j) - sumF (at0 d) k) (k + 1 + j - k) < nz (sumF (at0 d) (amg d k j) - sumF (at0 d) k) (amg d k j - k) := c
        rw [if_pos c, if_pos c']
      · have c' : ¬ nz (sumF (at0 d) (k + 1 + j) - sumF (at0 d) k) (k + 1 + j - k) < nz (sumF (at0 d) (amg d k j) - sumF (at0 d) k) (amg d k j - k) := c
        rw [if_neg c, if_neg c']
    rw [nxt] at B
    by_cases gn : k + 1 + j < n
    · rw [hw (k + 1 + j) (by omega) gn, if_neg (far lo (by omega) (by omega) am.1)] at B
      by_cases c3 : nz (z - sumF (at0 d) k) (b - k) < nz (sumF (at0 d) (k + 1 + j) + 999 - sumF (at0 d) k) (k + 1 + j - k)
      · rw [if_pos c3] at B
        rw [nkR_go B]
        exact wide_run hf ht hw hw2 hn lo hk q (j + 1) (by omega) b z b1 b2 b3
      · rw [if_neg c3] at B
        rw [nkR_go B]
        exact wide_run hf ht hw hw2 hn lo hk q (j + 1) (by omega) _ _ (by omega) (by omega) (.inl ⟨gn, rfl⟩)
    · have ge : k + 1 + j = n := by omega
      have q0 : q = 0 := by omega
      subst q0
      rw [ge, hw2] at B
      rw [show n - k = j + 1 by omega]
      by_cases c2 : nz (sumF (at0 d) n - sumF (at0 d) k) (n - k) < nz (sumF (at0 d) (amg d k j) - sumF (at0 d) k) (amg d k j - k)
      · rw [if_pos c2] at B
        have e : amg d k (j + 1) = amg d k j := by
          show (if slo d k (k + 1 + j) < slo d k (amg d k j) then amg d k j else k + 1 + j) = _
          rw [ge]
          exact if_pos c2
        rw [e]
        exact nkR_rt (by rw [ge]; exact B)
      · rw [if_neg c2] at B
        rw [nkR_go (by rw [ge]; exact B)]
        exact nkR_end
theorem nk_wide (hf : Flo d fl n) (ht : tp.length = n + 1) (hw : ∀ g, 1 ≤ g → g < n → at0 tp g = sumF (at0 d) g + 999) (hw2 : at0 tp n = sumF (at0 d) n) (hn : n ≤ 9) (lo : Low d) {k : Nat} (hk : k < n) : P_next_knot [.list (iL fl), .list (iL tp), knD k (sumF (at0 d) k)] = pr (knD (amg d k (n - k)) (sumF (at0 d) (amg d k (n - k)))) := by
  rw [nk_is hf.1 ht (by omega) hk, hf.2 (k + 1) (by omega)]
  by_cases c : k + 1 < n
  · rw [hw (k + 1) (by omega) c]
    exact wide_run hf ht hw hw2 hn lo hk (n - k) 0 (by omega) (k + 1) _ (by omega) (by omega) (.inl ⟨c, rfl⟩)
  · have e : k + 1 = n := by omega
    have z := wide_run hf ht hw hw2 hn lo hk (n - k) 0 (by omega) (k + 1) (sumF (at0 d) n) (by omega) (by omega) (.inr ⟨rfl, e, e⟩)
    rw [show at0 tp (k + 1) = sumF (at0 d) n by rw [e, hw2]]
    exact z
theorem dMul_x {X : Dt} {m : Nat} (h : m ≤ 12) : dMul (.list [X]) (.int (m : Int)) = some (.list (List.replicate m X)) := by
  have e : (List.replicate m [X]).flatten = List.replicate m X := by
    clear h
    induction m with
    | zero => rfl
    | succ n ih => rw [List.replicate_succ, List.flatten_cons, ih]; rfl
  have c : (decide (-(2 ^ 63) ≤ (m : Int)) && decide ((m : Int) < 2 ^ 63) && decide ([X].length * (m : Int).toNat ≤ sizeLine)) = true := by
    rw [Bool.and_eq_true, Bool.and_eq_true]
    exact ⟨⟨decide_eq_true (by omega), decide_eq_true (by omega)⟩, decide_eq_true (Nat.le_trans (show _ ≤ 12 by simp; omega) (by decide))⟩
  unfold dMul
  dsimp only
  rw [if_pos c, Int.toNat_natCast, e]
theorem even_step (hn : n ≤ 9) {k e : Nat} (ke : k < e) (en : e ≤ n) {acc : List Dt} (ha : acc.length ≤ 100) (nk : P_next_knot [.list (iL fl), .list (iL tp), knD k (sumF (at0 d) k)] = pr (knD e (sumF (at0 d) e))) :
    pw1_even (.int (n : Int)) (acc, knD k (sumF (at0 d) k)) = pr true ∧ pv1_even (.list (iL fl)) (.list (iL tp)) (acc, knD k (sumF (at0 d) k)) = pr (.go (acc ++ List.replicate (e - k) (qD (slo d k e)), knD e (sumF (at0 d) e))) := by
  have s : P_slope [knD k (sumF (at0 d) k), knD e (sumF (at0 d) e)] = pr (qD (nz (sumF (at0 d) e - sumF (at0 d) k) (e - k))) := P_slope_ok (x := sumF (at0 d) k) (y := sumF (at0 d) e) ke (by omega)
  have m := dMul_x (X := qD (nz (sumF (at0 d) e - sumF (at0 d) k) (e - k))) (m := e - k) (by omega)
  rw [show ((e - k : Nat) : Int) = (e : Int) - (k : Int) by omega] at m
  have i1 : dIx (knD k (sumF (at0 d) k)) (.int 0) = some (.int (k : Int)) := rfl
  have i2 : dIx (knD e (sumF (at0 d) e)) (.int 0) = some (.int (e : Int)) := rfl
  have kn : (k : Int) < (n : Int) := by omega
  have px : (pext acc (.list (List.replicate (e - k) (qD (nz (sumF (at0 d) e - sumF (at0 d) k) (e - k))))) : M Unit _) = pr (acc ++ List.replicate (e - k) (qD (nz (sumF (at0 d) e - sumF (at0 d) k) (e - k)))) := by
    unfold pext
    show pif _ _ _ = _
    rw [show decide (acc.length + (List.replicate (e - k) (qD (nz (sumF (at0 d) e - sumF (at0 d) k) (e - k)))).length ≤ sizeLine) = true from decide_eq_true (Nat.le_trans (show _ ≤ 1000 by rw [List.length_replicate]; omega) (by decide))]
    rfl
  constructor
  · unfold pw1_even
    generalize knD k (sumF (at0 d) k) = K at *
    simp (implicitDefEqProofs := false) [pb_pr, pb_pz, pb_pb, po_s, po_n, pif_t, pif_f, lift0_pr, pnx_pr, p2_d, p1_d, pB_b, pasB_d, pasT_d, pT_n, pT_b, pT_i, pT_l, pT_t, pchain_d, pandM_d, porM_d, pnotM_d, pandV_d, porV_d, pnotV_d, pite_d, pcons_d, ptup_d, plst_d, pfrz_d, pix_d, ppart_d, pI_i, pslice_d, pcall_d, ptyp_d, pL_l, pN_i, pS_l, pS_t, plis_d, pcat_d, piter_d, prng_d, prev_d, pfn_d, pfnR_d, paug_i, paugX_d, pcomp_d, pcomp2_d, un1_d, un2_t, un3_t, un4_t, pel_d, pel2_d, pend_l, pend_r, sd0, sd1, sd2, sd3, sd4, sd5, sd6, dAdd_int, dSub_int, dLt_int, dLe_int, dGt_int, dGe_int, dFdv_int, dMod_int, dMulR, dMulL, dNeg_int, pow18, dIs_none, dIsN_none, dIs_b, dIsN_b, isNone, dEq_id, dNe_id, dEq_bb, dNe_bb, dIx_l, dIx_t, dSl_l, dSl_t, dLen_l, dLen_t, dInt_i, dTup_l, dTup_t, dAbs_i, items_l, items_t, isDt_n, isDt_i, isDt_b, isDt_s, isDt_t, isDt_l, zO_tt, zO_ll, zO_tl, enO_t, enO_l, dEq_ln, dNe_ln, dEq_lt, dNe_lt, -List.getD_eq_getElem?_getD, -List.map_map, -List.map_take, -List.map_drop, i1, kn]
  · unfold pv1_even slo
    generalize nz (sumF (at0 d) e - sumF (at0 d) k) (e - k) = Q at *
    generalize knD k (sumF (at0 d) k) = K at *
    generalize knD e (sumF (at0 d) e) = E at *
    generalize qD Q = QQ at *
    simp (implicitDefEqProofs := false) [pb_pr, pb_pz, pb_pb, po_s, po_n, pif_t, pif_f, lift0_pr, pnx_pr, p2_d, p1_d, pB_b, pasB_d, pasT_d, pT_n, pT_b, pT_i, pT_l, pT_t, pchain_d, pandM_d, porM_d, pnotM_d, pandV_d, porV_d, pnotV_d, pite_d, pcons_d, ptup_d, plst_d, pfrz_d, pix_d, ppart_d, pI_i, pslice_d, pcall_d, ptyp_d, pL_l, pN_i, pS_l, pS_t, plis_d, pcat_d, piter_d, prng_d, prev_d, pfn_d, pfnR_d, paug_i, paugX_d, pcomp_d, pcomp2_d, un1_d, un2_t, un3_t, un4_t, pel_d, pel2_d, pend_l, pend_r, sd0, sd1, sd2, sd3, sd4, sd5, sd6, dAdd_int, dSub_int, dLt_int, dLe_int, dGt_int, dGe_int, dFdv_int, dMod_int, dMulR, dMulL, dNeg_int, pow18, dIs_none, dIsN_none, dIs_b, dIsN_b, isNone, dEq_id, dNe_id, dEq_bb, dNe_bb, dIx_l, dIx_t, dSl_l, dSl_t, dLen_l, dLen_t, dInt_i, dTup_l, dTup_t, dAbs_i, items_l, items_t, isDt_n, isDt_i, isDt_b, isDt_s, isDt_t, isDt_l, zO_tt, zO_ll, zO_tl, enO_t, enO_l, dEq_ln, dNe_ln, dEq_lt, dNe_lt, -List.getD_eq_getElem?_getD, -List.map_map, -List.map_take, -List.map_drop, nk, s, m, i1, i2, px]
end
end DN

namespace DN
open PySem PySem.Spec L2
section
variable {d r : List Int} {n : Nat}
def flo (d : List Int) (n : Nat) : List Int := (List.range (n + 1)).map (sumF (at0 d))
theorem flo_ok : Flo d (flo d n) n := ⟨by unfold flo; simp, fun g hg => by
  unfold flo at0
  rw [List.getD_eq_getElem?_getD, List.getElem?_map, List.getElem?_range (by omega)]
  rfl⟩
def roo (r : List Int) (n : Nat) : List Int := 0 :: (r.take (n - 1) ++ [0])
theorem roo_len (hr : r.length = n) (h1 : 1 ≤ n) : (roo r n).length = n + 1 := by
  unfold roo
  rw [List.length_cons, List.length_append, List.length_take]; simp; omega
theorem add_even : ∀ (as bs : List Int), mapP pc2_even (zipD (iL as) (iL bs)) = (pr (iL (addL as bs)) : M Unit _)
  | [], _ => mapP_nil
  | a :: as, [] => mapP_nil
  | a :: as, b :: bs => mapP_cons (by
      unfold pc2_even
      simp (implicitDefEqProofs := false) [pb_pr, pb_pz, pb_pb, po_s, po_n, pif_t, pif_f, lift0_pr, pnx_pr, p2_d, p1_d, pB_b, pasB_d, pasT_d, pT_n, pT_b, pT_i, pT_l, pT_t, pchain_d, pandM_d, porM_d, pnotM_d, pandV_d, porV_d, pnotV_d, pite_d, pcons_d, ptup_d, plst_d, pfrz_d, pix_d, ppart_d, pI_i, pslice_d, pcall_d, ptyp_d, pL_l, pN_i, pS_l, pS_t, plis_d, pcat_d, piter_d, prng_d, prev_d, pfn_d, pfnR_d, paug_i, paugX_d, pcomp_d, pcomp2_d, un1_d, un2_t, un3_t, un4_t, pel_d, pel2_d, pend_l, pend_r, sd0, sd1, sd2, sd3, sd4, sd5, sd6, dAdd_int, dSub_int, dLt_int, dLe_int, dGt_int, dGe_int, dFdv_int, dMod_int, dMulR, dMulL, dNeg_int, pow18, dIs_none, dIsN_none, dIs_b, dIsN_b, isNone, dEq_id, dNe_id, dEq_bb, dNe_bb, dIx_l, dIx_t, dSl_l, dSl_t, dLen_l, dLen_t, dInt_i, dTup_l, dTup_t, dAbs_i, items_l, items_t, isDt_n, isDt_i, isDt_b, isDt_s, isDt_t, isDt_l, zO_tt, zO_ll, zO_tl, enO_t, enO_l, dEq_ln, dNe_ln, dEq_lt, dNe_lt, -List.getD_eq_getElem?_getD, -List.map_map, -List.map_take, -List.map_drop]) (add_even as bs)
theorem at0_addL : ∀ {as bs : List Int} {g : Nat}, as.length = bs.length → g < as.length → at0 (addL as bs) g = at0 as g + at0 bs g
  | [], _, g, _, h => by simp at h
  | a :: as, [], g, h, _ => by simp at h
  | a :: as, b :: bs, 0, _, _ => rfl
  | a :: as, b :: bs, g + 1, h, h2 => at0_addL (as := as) (bs := bs) (by simpa using h) (by simpa using h2)
theorem even_frame (hd : Ent d n) (hr : Ent r n) (h1 : 1 ≤ n) (hn : n ≤ 9) {L : List Dt} {K : Dt} (hL : L.length ≤ 1000) (R : Runs (pw1_even (.int (n : Int))) (pv1_even (.list (iL (flo d n))) (.list (iL (addL (flo d n) (roo r n))))) ([], knD 0 0) (L, K)) : P_even [tI d, tI r] = pr (.tuple L) := by
  have as := ase_list (ds := iL d) (m := 12) (by rw [iL_len, hd.1]; exact h1) (by rw [iL_len, hd.1]; omega) (by rw [iL_len, hd.1]; omega) (fun e h => by
    obtain ⟨i, _, rfl⟩ := List.mem_map.1 h
    rfl)
  rw [show (iL d).all entB = true from List.all_eq_true.2 fun x hx => ent_all hd x hx] at as
  have as : P_are_some_entries [tI d, k_MOST_PERIODS] = pr (.bool true) := as
  have ar := ae_row hr (by omega)
  have ld : dLen [tI d] = some (.int (n : Int)) := by rw [dLen_t, iL_len, hd.1]
  have cb : P_check_both [tI d, tI r] = pr .none := by
    unfold P_check_both
    generalize tI d = D at *
    generalize tI r = RR at *
    simp (implicitDefEqProofs := false) [pb_pr, pb_pz, pb_pb, po_s, po_n, pif_t, pif_f, lift0_pr, pnx_pr, p2_d, p1_d, pB_b, pasB_d, pasT_d, pT_n, pT_b, pT_i, pT_l, pT_t, pchain_d, pandM_d, porM_d, pnotM_d, pandV_d, porV_d, pnotV_d, pite_d, pcons_d, ptup_d, plst_d, pfrz_d, pix_d, ppart_d, pI_i, pslice_d, pcall_d, ptyp_d, pL_l, pN_i, pS_l, pS_t, plis_d, pcat_d, piter_d, prng_d, prev_d, pfn_d, pfnR_d, paug_i, paugX_d, pcomp_d, pcomp2_d, un1_d, un2_t, un3_t, un4_t, pel_d, pel2_d, pend_l, pend_r, sd0, sd1, sd2, sd3, sd4, sd5, sd6, dAdd_int, dSub_int, dLt_int, dLe_int, dGt_int, dGe_int, dFdv_int, dMod_int, dMulR, dMulL, dNeg_int, pow18, dIs_none, dIsN_none, dIs_b, dIsN_b, isNone, dEq_id, dNe_id, dEq_bb, dNe_bb, dIx_l, dIx_t, dSl_l, dSl_t, dLen_l, dLen_t, dInt_i, dTup_l, dTup_t, dAbs_i, items_l, items_t, isDt_n, isDt_i, isDt_b, isDt_s, isDt_t, isDt_l, zO_tt, zO_ll, zO_tl, enO_t, enO_l, dEq_ln, dNe_ln, dEq_lt, dNe_lt, -List.getD_eq_getElem?_getD, -List.map_map, -List.map_take, -List.map_drop, pb_ex, lift0_ex, praise_d, ptry_go, ptry_rt, ptry_ex, as, ld, ar]
  have rg := range0 (n := n + 1) (by omega)
  rw [show ((n + 1 : Nat) : Int) = (n : Int) + 1 by omega] at rg
  have mf := mapP_map (q := pc1_even (tI d)) (fun (i : Nat) => PyData.int (i : Int)) (fun g => .int (sumF (at0 d) g)) (List.range (n + 1)) (fun g hg => by
    have gl := List.mem_range.1 hg
    have c := cut_take d g
    have s := sumT_iL (d.take g)
    rw [take_sumF d g (by rw [hd.1]; omega)] at s
    unfold pc1_even
    generalize sumF (at0 d) g = S at *
    simp (implicitDefEqProofs := false) [pb_pr, pb_pz, pb_pb, po_s, po_n, pif_t, pif_f, lift0_pr, pnx_pr, p2_d, p1_d, pB_b, pasB_d, pasT_d, pT_n, pT_b, pT_i, pT_l, pT_t, pchain_d, pandM_d, porM_d, pnotM_d, pandV_d, porV_d, pnotV_d, pite_d, pcons_d, ptup_d, plst_d, pfrz_d, pix_d, ppart_d, pI_i, pslice_d, pcall_d, ptyp_d, pL_l, pN_i, pS_l, pS_t, plis_d, pcat_d, piter_d, prng_d, prev_d, pfn_d, pfnR_d, paug_i, paugX_d, pcomp_d, pcomp2_d, un1_d, un2_t, un3_t, un4_t, pel_d, pel2_d, pend_l, pend_r, sd0, sd1, sd2, sd3, sd4, sd5, sd6, dAdd_int, dSub_int, dLt_int, dLe_int, dGt_int, dGe_int, dFdv_int, dMod_int, dMulR, dMulL, dNeg_int, pow18, dIs_none, dIsN_none, dIs_b, dIsN_b, isNone, dEq_id, dNe_id, dEq_bb, dNe_bb, dIx_l, dIx_t, dSl_l, dSl_t, dLen_l, dLen_t, dInt_i, dTup_l, dTup_t, dAbs_i, items_l, items_t, isDt_n, isDt_i, isDt_b, isDt_s, isDt_t, isDt_l, zO_tt, zO_ll, zO_tl, enO_t, enO_l, dEq_ln, dNe_ln, dEq_lt, dNe_lt, -List.getD_eq_getElem?_getD, -List.map_map, -List.map_take, -List.map_drop, c, s])
  have ef : (List.range (n + 1)).map (fun g => PyData.int (sumF (at0 d) g)) = iL (flo d n) := by unfold flo; rw [iL, List.map_map]; rfl
  rw [ef] at mf
  have sz : decide (((List.range (n + 1)).map fun (i : Nat) => PyData.int (i : Int)).length < sizeLine) = true := sl_lt (by rw [List.length_map, List.length_range]; omega)
  have c1 : cutL (iL r) none (some (-1)) = iL (r.take (n - 1)) := by
    have z := cut_lastq (ds := iL r)
    rw [iL_len, hr.1] at z
    rw [z]
    exact (List.map_take ..).symm
  have c2 : dAdd (.tuple [.int 0]) (.tuple (iL (r.take (n - 1)))) = some (.tuple (.int 0 :: iL (r.take (n - 1)))) := dAdd_tt (by rw [iL_len, List.length_take]; simp; omega)
  have c3 : dAdd (.tuple (.int 0 :: iL (r.take (n - 1)))) (.tuple [.int 0]) = some (.tuple (iL (roo r n))) := by
    rw [dAdd_tt (by rw [List.length_cons, iL_len, List.length_take]; simp; omega)]
    unfold roo
    simp
  have zo : zO [.list (iL (flo d n)), .tuple (iL (roo r n))] = some (zipD (iL (flo d n)) (iL (roo r n))) := rfl
  have ad := add_even (flo d n) (roo r n)
  have sz2 : decide ((zipD (iL (flo d n)) (iL (roo r n))).length < sizeLine) = true := sl_lt (by rw [zipD_len, iL_len, iL_len, roo_len hr.1 h1]; unfold flo; simp; omega)
  have wh := runs_while R
  have k0 : (PyData.tuple [.int 0, .int 0]) = knD 0 0 := rfl
  unfold P_even
  generalize (List.range (n + 1)).map (fun (i : Nat) => PyData.int (i : Int)) = R1 at *
  generalize zipD (iL (flo d n)) (iL (roo r n)) = ZZ at *
  generalize iL (addL (flo d n) (roo r n)) = TP at *
  generalize iL (roo r n) = RO at *
  generalize iL (r.take (n - 1)) = RT at *
  generalize iL (flo d n) = FL at *
  simp (implicitDefEqProofs := false) [pb_pr, pb_pz, pb_pb, po_s, po_n, pif_t, pif_f, lift0_pr, pnx_pr, p2_d, p1_d, pB_b, pasB_d, pasT_d, pT_n, pT_b, pT_i, pT_l, pT_t, pchain_d, pandM_d, porM_d, pnotM_d, pandV_d, porV_d, pnotV_d, pite_d, pcons_d, ptup_d, plst_d, pfrz_d, pix_d, ppart_d, pI_i, pslice_d, pcall_d, ptyp_d, pL_l, pN_i, pS_l, pS_t, plis_d, pcat_d, piter_d, prng_d, prev_d, pfn_d, pfnR_d, paug_i, paugX_d, pcomp_d, pcomp2_d, un1_d, un2_t, un3_t, un4_t, pel_d, pel2_d, pend_l, pend_r, sd0, sd1, sd2, sd3, sd4, sd5, sd6, dAdd_int, dSub_int, dLt_int, dLe_int, dGt_int, dGe_int, dFdv_int, dMod_int, dMulR, dMulL, dNeg_int, pow18, dIs_none, dIsN_none, dIs_b, dIsN_b, isNone, dEq_id, dNe_id, dEq_bb, dNe_bb, dIx_l, dIx_t, dSl_l, dSl_t, dLen_l, dLen_t, dInt_i, dTup_l, dTup_t, dAbs_i, items_l, items_t, isDt_n, isDt_i, isDt_b, isDt_s, isDt_t, isDt_l, zO_tt, zO_ll, zO_tl, enO_t, enO_l, dEq_ln, dNe_ln, dEq_lt, dNe_lt, -List.getD_eq_getElem?_getD, -List.map_map, -List.map_take, -List.map_drop, cb, ld, rg, mf, sz, c1, c2, c3, zo, ad, sz2, k0, wh]
end
end DN

namespace DN
open PySem PySem.Spec L2
section
variable {d fl tp : List Int} {n : Nat}
theorem nz_int {m : Nat} (x : Int) (h : m ≠ 0) : qD (nz ((m : Int) * x) m) = .tuple [.int x, .int 1] := by
  rw [nz_of h]
  obtain ⟨e1, e2⟩ := norm_is (t := (m : Int) * x) h
  have g : Nat.gcd ((m : Int) * x).natAbs m = m := Nat.gcd_eq_right (by rw [Int.natAbs_mul, Int.natAbs_natCast]; exact Nat.dvd_mul_right _ _)
  rw [g] at e1 e2
  rw [Int.mul_ediv_cancel_left _ (by omega)] at e1
  rw [Int.ediv_self (by omega)] at e2
  show PyData.tuple [.int (Rat.normalize _ m h).num, .int ((Rat.normalize _ m h).den : Int)] = _
  rw [e1, e2]
theorem slo_const {k e : Nat} (h : k < e) (c : Cst d k e) : qD (slo d k e) = .tuple [.int (at0 d k), .int 1] := by
  obtain ⟨j, rfl⟩ : ∃ j, e = k + j := ⟨e - k, by omega⟩
  have s := cst_sum j c
  unfold slo
  rw [s, show sumF (at0 d) k + (j : Int) * at0 d k - sumF (at0 d) k = (j : Int) * at0 d k by omega, show k + j - k = j by omega]
  exact nz_int _ (by omega)
theorem even_stop {acc : List Dt} {x : Int} : pw1_even (.int (n : Int)) (acc, knD n x) = pr false := by
  have i1 : dIx (knD n x) (.int 0) = some (.int (n : Int)) := rfl
  unfold pw1_even
  generalize knD n x = K at *
  simp (implicitDefEqProofs := false) [pb_pr, pb_pz, pb_pb, po_s, po_n, pif_t, pif_f, lift0_pr, pnx_pr, p2_d, p1_d, pB_b, pasB_d, pasT_d, pT_n, pT_b, pT_i, pT_l, pT_t, pchain_d, pandM_d, porM_d, pnotM_d, pandV_d, porV_d, pnotV_d, pite_d, pcons_d, ptup_d, plst_d, pfrz_d, pix_d, ppart_d, pI_i, pslice_d, pcall_d, ptyp_d, pL_l, pN_i, pS_l, pS_t, plis_d, pcat_d, piter_d, prng_d, prev_d, pfn_d, pfnR_d, paug_i, paugX_d, pcomp_d, pcomp2_d, un1_d, un2_t, un3_t, un4_t, pel_d, pel2_d, pend_l, pend_r, sd0, sd1, sd2, sd3, sd4, sd5, sd6, dAdd_int, dSub_int, dLt_int, dLe_int, dGt_int, dGe_int, dFdv_int, dMod_int, dMulR, dMulL, dNeg_int, pow18, dIs_none, dIsN_none, dIs_b, dIsN_b, isNone, dEq_id, dNe_id, dEq_bb, dNe_bb, dIx_l, dIx_t, dSl_l, dSl_t, dLen_l, dLen_t, dInt_i, dTup_l, dTup_t, dAbs_i, items_l, items_t, isDt_n, isDt_i, isDt_b, isDt_s, isDt_t, isDt_l, zO_tt, zO_ll, zO_tl, enO_t, enO_l, dEq_ln, dNe_ln, dEq_lt, dNe_lt, -List.getD_eq_getElem?_getD, -List.map_map, -List.map_take, -List.map_drop, i1]
def ones (d : List Int) (k m : Nat) : List Dt := (List.range m).map fun i => .tuple [.int (at0 d (k + i)), .int 1]
theorem const_run (hn : n ≤ 9) (H : ∀ k, k < n → ∃ e, k < e ∧ e ≤ n ∧ Cst d k e ∧ P_next_knot [.list (iL fl), .list (iL tp), knD k (sumF (at0 d) k)] = pr (knD e (sumF (at0 d) e))) : ∀ (m k : Nat) (acc : List Dt), n - k ≤ m → k ≤ n → acc.length + (n - k) ≤ 100 →
    Runs (pw1_even (.int (n : Int))) (pv1_even (.list (iL fl)) (.list (iL tp))) (acc, knD k (sumF (at0 d) k)) (acc ++ ones d k (n - k), knD n (sumF (at0 d) n))
  | 0, k, acc, h1, h2, h3 => by
    have e : k = n := by omega
    subst e
    rw [show k - k = 0 by omega]
    show Runs _ _ _ (acc ++ [], _)
    rw [List.append_nil]
    exact runs_end even_stop
  | m + 1, k, acc, h1, h2, h3 => by
    by_cases c : k = n
    · subst c
      rw [show k - k = 0 by omega]
      show Runs _ _ _ (acc ++ [], _)
      rw [List.append_nil]
      exact runs_end even_stop
    · obtain ⟨e, ke, en, cs, nk⟩ := H k (by omega)
      obtain ⟨s1, s2⟩ := even_step (fl := fl) (tp := tp) hn ke en (acc := acc) (by omega) nk
      refine runs_step s1 s2 ?_
      have ih := const_run hn H m e (acc ++ List.replicate (e - k) (qD (slo d k e))) (by omega) en (by rw [List.length_append, List.length_replicate]; omega)
      have q : acc ++ List.replicate (e - k) (qD (slo d k e)) ++ ones d e (n - e) = acc ++ ones d k (n - k) := by
        rw [List.append_assoc]
        congr 1
        unfold ones
        rw [show n - k = (e - k) + (n - e) by omega, List.range_add, List.map_append, List.map_map, slo_const ke cs]
        congr 1
        · refine (List.eq_replicate_iff.2 ⟨by simp, fun y hy => ?_⟩).symm
          obtain ⟨i, hi, rfl⟩ := List.mem_map.1 hy
          have il := List.mem_range.1 hi
          rw [cs (k + i) (by omega) (by omega)]
        · refine List.map_congr_left fun i _ => ?_
          show _ = PyData.tuple [.int (at0 d (k + (e - k + i))), .int 1]
          rw [show k + (e - k + i) = e + i by omega]
      rw [q] at ih
      exact ih
def bstq (d : List Int) (k : Nat) : Nat → Dt
  | 0 => .none
  | j + 1 => .tuple [qD (slo d k (amg d k (j + 1))), .int (amg d k (j + 1) : Nat)]
theorem cut_sum (hd : d.length = n) {k g : Nat} (kg : k ≤ g) (gn : g ≤ n) : dSum [.tuple (cutL (iL d) (some (k : Int)) (some (g : Int)))] = some (.int (sumF (at0 d) g - sumF (at0 d) k)) := by
  have a := amt_sumq (prOf d [] [] []) k (g - k)
  rw [show k + (g - k) = g by omega] at a
  have a : sumF (at0 d) g = sumF (at0 d) k + (prOf d [] [] []).amt k (g - k) := a
  rw [cut_two (by rw [iL_len]; omega) (by rw [iL_len]; omega), iL, ← List.map_drop, ← List.map_take, sumT_iL, sum_cut d k (g - k) (by omega) (prOf d [] [] []) fun _ => rfl]
  congr 2
  omega
theorem law_turn (hd : d.length = n) (hn : n ≤ 9) {k : Nat} {X : Dt} : ∀ j, k + j < n → pl1_law_33 (tI d) (X, .int (k : Int)) (.int ((k + 1 + j : Nat) : Int)) (bstq d k j) = pr (.go (bstq d k (j + 1))) := fun j hj => by
  have sm := cut_sum hd (k := k) (g := k + 1 + j) (by omega) (by omega)
  have lo := P_lowered_ok (t := sumF (at0 d) (k + 1 + j) - sumF (at0 d) k) (b := k + 1 + j - k) (by omega) (by omega)
  rw [← nz_of (by omega), show ((k + 1 + j - k : Nat) : Int) = ((k + 1 + j : Nat) : Int) - (k : Int) by omega] at lo
  have lo : P__law_lowered [.int (sumF (at0 d) (k + 1 + j) - sumF (at0 d) k), .int (((k + 1 + j : Nat) : Int) - (k : Int))] = pr (qD (slo d k (k + 1 + j))) := lo
  have dn1 : (slo d k (k + 1 + j)).den ≤ k + 1 + j - k := nz_den (by omega)
  cases j with
  | zero =>
    have e : amg d k 1 = k + 1 := by
      show (if _ then k + 1 else k + 1 + 0) = _
      split <;> rfl
    have b1 : bstq d k 1 = .tuple [qD (slo d k (k + 1 + 0)), .int ((k + 1 + 0 : Nat) : Int)] := by
      show PyData.tuple [qD (slo d k (amg d k 1)), .int (amg d k 1 : Nat)] = _
      rw [e]
    rw [b1]
    show pl1_law_33 _ _ _ .none = _
    unfold pl1_law_33
    generalize qD (slo d k (k + 1 + 0)) = Q at *
    generalize sumF (at0 d) (k + 1 + 0) - sumF (at0 d) k = S at *
    generalize ((k + 1 + 0 : Nat) : Int) = G at *
    simp (implicitDefEqProofs := false) [pb_pr, pb_pz, pb_pb, po_s, po_n, pif_t, pif_f, lift0_pr, pnx_pr, p2_d, p1_d, pB_b, pasB_d, pasT_d, pT_n, pT_b, pT_i, pT_l, pT_t, pchain_d, pandM_d, porM_d, pnotM_d, pandV_d, porV_d, pnotV_d, pite_d, pcons_d, ptup_d, plst_d, pfrz_d, pix_d, ppart_d, pI_i, pslice_d, pcall_d, ptyp_d, pL_l, pN_i, pS_l, pS_t, plis_d, pcat_d, piter_d, prng_d, prev_d, pfn_d, pfnR_d, paug_i, paugX_d, pcomp_d, pcomp2_d, un1_d, un2_t, un3_t, un4_t, pel_d, pel2_d, pend_l, pend_r, sd0, sd1, sd2, sd3, sd4, sd5, sd6, dAdd_int, dSub_int, dLt_int, dLe_int, dGt_int, dGe_int, dFdv_int, dMod_int, dMulR, dMulL, dNeg_int, pow18, dIs_none, dIsN_none, dIs_b, dIsN_b, isNone, dEq_id, dNe_id, dEq_bb, dNe_bb, dIx_l, dIx_t, dSl_l, dSl_t, dLen_l, dLen_t, dInt_i, dTup_l, dTup_t, dAbs_i, items_l, items_t, isDt_n, isDt_i, isDt_b, isDt_s, isDt_t, isDt_l, zO_tt, zO_ll, zO_tl, enO_t, enO_l, dEq_ln, dNe_ln, dEq_lt, dNe_lt, -List.getD_eq_getElem?_getD, -List.map_map, -List.map_take, -List.map_drop, sm, lo]
  | succ j =>
    have am := amg_bd (d := d) k (j + 1)
    have dn2 : (slo d k (amg d k (j + 1))).den ≤ amg d k (j + 1) - k := nz_den (by omega)
    have ls := P_law_less_ok (a := slo d k (k + 1 + (j + 1))) (b := slo d k (amg d k (j + 1))) (by omega) (by omega)
    have i0 : dIx (bstq d k (j + 1)) (.int 0) = some (qD (slo d k (amg d k (j + 1)))) := rfl
    have isn : dIs (bstq d k (j + 1)) .none = some (.bool false) := rfl
    have nx : bstq d k (j + 1 + 1) = if slo d k (k + 1 + (j + 1)) < slo d k (amg d k (j + 1)) then bstq d k (j + 1) else .tuple [qD (slo d k (k + 1 + (j + 1))), .int ((k + 1 + (j + 1) : Nat) : Int)] := by
      show PyData.tuple [qD (slo d k (if slo d k (k + 1 + (j + 1)) < slo d k (amg d k (j + 1)) then amg d k (j + 1) else k + 1 + (j + 1))), .int ((if slo d k (k + 1 + (j + 1)) < slo d k (amg d k (j + 1)) then amg d k (j + 1) else k + 1 + (j + 1) : Nat) : Int)] = _
      split <;> rfl
    have be : bstq d k (j + 1) = .tuple [qD (slo d k (amg d k (j + 1))), .int (amg d k (j + 1) : Nat)] := rfl
    rw [nx, be]
    clear i0 isn nx be
    unfold pl1_law_33
    clear am dn1 dn2
    generalize ((amg d k (j + 1) : Nat) : Int) = A2 at *
    generalize slo d k (amg d k (j + 1)) = Q2 at *
    generalize slo d k (k + 1 + (j + 1)) = Q1 at *
    generalize sumF (at0 d) (k + 1 + (j + 1)) - sumF (at0 d) k = S at *
    generalize ((k + 1 + (j + 1) : Nat) : Int) = G at *
    generalize qD Q1 = D1 at *
    generalize qD Q2 = D2 at *
    have i0 : atI [D2, PyData.int A2] 0 = some D2 := rfl
    by_cases c : Q1 < Q2
    · simp (implicitDefEqProofs := false) [pb_pr, pb_pz, pb_pb, po_s, po_n, pif_t, pif_f, lift0_pr, pnx_pr, p2_d, p1_d, pB_b, pasB_d, pasT_d, pT_n, pT_b, pT_i, pT_l, pT_t, pchain_d, pandM_d, porM_d, pnotM_d, pandV_d, porV_d, pnotV_d, pite_d, pcons_d, ptup_d, plst_d, pfrz_d, pix_d, ppart_d, pI_i, pslice_d, pcall_d, ptyp_d, pL_l, pN_i, pS_l, pS_t, plis_d, pcat_d, piter_d, prng_d, prev_d, pfn_d, pfnR_d, paug_i, paugX_d, pcomp_d, pcomp2_d, un1_d, un2_t, un3_t, un4_t, pel_d, pel2_d, pend_l, pend_r, sd0, sd1, sd2, sd3, sd4, sd5, sd6, dAdd_int, dSub_int, dLt_int, dLe_int, dGt_int, dGe_int, dFdv_int, dMod_int, dMulR, dMulL, dNeg_int, pow18, dIs_none, dIsN_none, dIs_b, dIsN_b, isNone, dEq_id, dNe_id, dEq_bb, dNe_bb, dIx_l, dIx_t, dSl_l, dSl_t, dLen_l, dLen_t, dInt_i, dTup_l, dTup_t, dAbs_i, items_l, items_t, isDt_n, isDt_i, isDt_b, isDt_s, isDt_t, isDt_l, zO_tt, zO_ll, zO_tl, enO_t, enO_l, dEq_ln, dNe_ln, dEq_lt, dNe_lt, -List.getD_eq_getElem?_getD, -List.map_map, -List.map_take, -List.map_drop, sm, lo, i0, ls, c]
    · simp (implicitDefEqProofs := false) [pb_pr, pb_pz, pb_pb, po_s, po_n, pif_t, pif_f, lift0_pr, pnx_pr, p2_d, p1_d, pB_b, pasB_d, pasT_d, pT_n, pT_b, pT_i, pT_l, pT_t, pchain_d, pandM_d, porM_d, pnotM_d, pandV_d, porV_d, pnotV_d, pite_d, pcons_d, ptup_d, plst_d, pfrz_d, pix_d, ppart_d, pI_i, pslice_d, pcall_d, ptyp_d, pL_l, pN_i, pS_l, pS_t, plis_d, pcat_d, piter_d, prng_d, prev_d, pfn_d, pfnR_d, paug_i, paugX_d, pcomp_d, pcomp2_d, un1_d, un2_t, un3_t, un4_t, pel_d, pel2_d, pend_l, pend_r, sd0, sd1, sd2, sd3, sd4, sd5, sd6, dAdd_int, dSub_int, dLt_int, dLe_int, dGt_int, dGe_int, dFdv_int, dMod_int, dMulR, dMulL, dNeg_int, pow18, dIs_none, dIsN_none, dIs_b, dIsN_b, isNone, dEq_id, dNe_id, dEq_bb, dNe_bb, dIx_l, dIx_t, dSl_l, dSl_t, dLen_l, dLen_t, dInt_i, dTup_l, dTup_t, dAbs_i, items_l, items_t, isDt_n, isDt_i, isDt_b, isDt_s, isDt_t, isDt_l, zO_tt, zO_ll, zO_tl, enO_t, enO_l, dEq_ln, dNe_ln, dEq_lt, dNe_lt, -List.getD_eq_getElem?_getD, -List.map_map, -List.map_take, -List.map_drop, sm, lo, i0, ls, c]
end
end DN

namespace DN
open PySem PySem.Spec L2
section
variable {d fl tp : List Int} {n : Nat}
theorem law_stop {acc : List Dt} : (pw1_law_33 (.int (n : Int)) (.list acc, .int (n : Int)) : M (List Dt) _) = pr false := by
  unfold pw1_law_33
  simp (implicitDefEqProofs := false) [pb_pr, pb_pz, pb_pb, po_s, po_n, pif_t, pif_f, lift0_pr, pnx_pr, p2_d, p1_d, pB_b, pasB_d, pasT_d, pT_n, pT_b, pT_i, pT_l, pT_t, pchain_d, pandM_d, porM_d, pnotM_d, pandV_d, porV_d, pnotV_d, pite_d, pcons_d, ptup_d, plst_d, pfrz_d, pix_d, ppart_d, pI_i, pslice_d, pcall_d, ptyp_d, pL_l, pN_i, pS_l, pS_t, plis_d, pcat_d, piter_d, prng_d, prev_d, pfn_d, pfnR_d, paug_i, paugX_d, pcomp_d, pcomp2_d, un1_d, un2_t, un3_t, un4_t, pel_d, pel2_d, pend_l, pend_r, sd0, sd1, sd2, sd3, sd4, sd5, sd6, dAdd_int, dSub_int, dLt_int, dLe_int, dGt_int, dGe_int, dFdv_int, dMod_int, dMulR, dMulL, dNeg_int, pow18, dIs_none, dIsN_none, dIs_b, dIsN_b, isNone, dEq_id, dNe_id, dEq_bb, dNe_bb, dIx_l, dIx_t, dSl_l, dSl_t, dLen_l, dLen_t, dInt_i, dTup_l, dTup_t, dAbs_i, items_l, items_t, isDt_n, isDt_i, isDt_b, isDt_s, isDt_t, isDt_l, zO_tt, zO_ll, zO_tl, enO_t, enO_l, dEq_ln, dNe_ln, dEq_lt, dNe_lt, -List.getD_eq_getElem?_getD, -List.map_map, -List.map_take, -List.map_drop]
theorem law_step (hd : d.length = n) (hn : n ≤ 9) {k : Nat} (hk : k < n) {acc : List Dt} (ha : acc.length ≤ 100) : (pw1_law_33 (.int (n : Int)) (.list acc, .int (k : Int)) : M (List Dt) _) = pr true ∧
    pv1_law_33 (.int (n : Int)) (tI d) (.list acc, .int (k : Int)) = pr (.go (.list (acc ++ List.replicate (amg d k (n - k) - k) (qD (slo d k (amg d k (n - k))))), .int (amg d k (n - k) : Nat))) := by
  have rg := range2 (a := k + 1) (b := n + 1) (by omega) (by omega)
  rw [show n + 1 - (k + 1) = n - k by omega, show ((k + 1 : Nat) : Int) = (k : Int) + 1 by omega, show ((n + 1 : Nat) : Int) = (n : Int) + 1 by omega] at rg
  have lp := forP_inv (body := pl1_law_33 (tI d) (.list acc, .int (k : Int))) (fun (i : Nat) => PyData.int ((k + 1 + i : Nat) : Int)) (List.range (n - k)) (fun j => bstq d k j) (fun i hi => by
    have hi2 : i < n - k := by simpa using hi
    rw [List.getElem_range]
    exact law_turn hd hn i (by omega))
  rw [List.length_range] at lp
  have lp : forP (pl1_law_33 (tI d) (.list acc, .int (k : Int))) ((List.range (n - k)).map fun (i : Nat) => PyData.int ((k + 1 + i : Nat) : Int)) .none = pr (bstq d k (n - k)) := lp
  obtain ⟨q, hq⟩ : ∃ q, n - k = q + 1 := ⟨n - k - 1, by omega⟩
  have ab := amg_bd (d := d) k (n - k)
  have ab1 := amg_bd1 (d := d) k (j := n - k) (by omega)
  have b0 : dIx (bstq d k (n - k)) (.int 0) = some (qD (slo d k (amg d k (n - k)))) := by rw [hq]; rfl
  have b1 : dIx (bstq d k (n - k)) (.int 1) = some (.int (amg d k (n - k) : Nat)) := by rw [hq]; rfl
  have m := dMul_x (X := qD (slo d k (amg d k (n - k)))) (m := amg d k (n - k) - k) (by omega)
  rw [show ((amg d k (n - k) - k : Nat) : Int) = ((amg d k (n - k) : Nat) : Int) - (k : Int) by omega] at m
  have ad : dAdd (.list acc) (.list (List.replicate (amg d k (n - k) - k) (qD (slo d k (amg d k (n - k)))))) = some (.list (acc ++ List.replicate (amg d k (n - k) - k) (qD (slo d k (amg d k (n - k)))))) := dAdd_ll (by rw [List.length_replicate]; omega)
  have kn : (k : Int) < (n : Int) := by omega
  constructor
  · unfold pw1_law_33
    simp (implicitDefEqProofs := false) [pb_pr, pb_pz, pb_pb, po_s, po_n, pif_t, pif_f, lift0_pr, pnx_pr, p2_d, p1_d, pB_b, pasB_d, pasT_d, pT_n, pT_b, pT_i, pT_l, pT_t, pchain_d, pandM_d, porM_d, pnotM_d, pandV_d, porV_d, pnotV_d, pite_d, pcons_d, ptup_d, plst_d, pfrz_d, pix_d, ppart_d, pI_i, pslice_d, pcall_d, ptyp_d, pL_l, pN_i, pS_l, pS_t, plis_d, pcat_d, piter_d, prng_d, prev_d, pfn_d, pfnR_d, paug_i, paugX_d, pcomp_d, pcomp2_d, un1_d, un2_t, un3_t, un4_t, pel_d, pel2_d, pend_l, pend_r, sd0, sd1, sd2, sd3, sd4, sd5, sd6, dAdd_int, dSub_int, dLt_int, dLe_int, dGt_int, dGe_int, dFdv_int, dMod_int, dMulR, dMulL, dNeg_int, pow18, dIs_none, dIsN_none, dIs_b, dIsN_b, isNone, dEq_id, dNe_id, dEq_bb, dNe_bb, dIx_l, dIx_t, dSl_l, dSl_t, dLen_l, dLen_t, dInt_i, dTup_l, dTup_t, dAbs_i, items_l, items_t, isDt_n, isDt_i, isDt_b, isDt_s, isDt_t, isDt_l, zO_tt, zO_ll, zO_tl, enO_t, enO_l, dEq_ln, dNe_ln, dEq_lt, dNe_lt, -List.getD_eq_getElem?_getD, -List.map_map, -List.map_take, -List.map_drop, kn]
  · unfold pv1_law_33
    clear ab ab1 hq
    generalize bstq d k (n - k) = B at *
    generalize List.replicate (amg d k (n - k) - k) (qD (slo d k (amg d k (n - k)))) = RP at *
    generalize qD (slo d k (amg d k (n - k))) = Q at *
    generalize ((amg d k (n - k) : Nat) : Int) = A at *
    generalize (List.range (n - k)).map (fun (i : Nat) => PyData.int ((k + 1 + i : Nat) : Int)) = R at *
    simp (implicitDefEqProofs := false) [pb_pr, pb_pz, pb_pb, po_s, po_n, pif_t, pif_f, lift0_pr, pnx_pr, p2_d, p1_d, pB_b, pasB_d, pasT_d, pT_n, pT_b, pT_i, pT_l, pT_t, pchain_d, pandM_d, porM_d, pnotM_d, pandV_d, porV_d, pnotV_d, pite_d, pcons_d, ptup_d, plst_d, pfrz_d, pix_d, ppart_d, pI_i, pslice_d, pcall_d, ptyp_d, pL_l, pN_i, pS_l, pS_t, plis_d, pcat_d, piter_d, prng_d, prev_d, pfn_d, pfnR_d, paug_i, paugX_d, pcomp_d, pcomp2_d, un1_d, un2_t, un3_t, un4_t, pel_d, pel2_d, pend_l, pend_r, sd0, sd1, sd2, sd3, sd4, sd5, sd6, dAdd_int, dSub_int, dLt_int, dLe_int, dGt_int, dGe_int, dFdv_int, dMod_int, dMulR, dMulL, dNeg_int, pow18, dIs_none, dIsN_none, dIs_b, dIsN_b, isNone, dEq_id, dNe_id, dEq_bb, dNe_bb, dIx_l, dIx_t, dSl_l, dSl_t, dLen_l, dLen_t, dInt_i, dTup_l, dTup_t, dAbs_i, items_l, items_t, isDt_n, isDt_i, isDt_b, isDt_s, isDt_t, isDt_l, zO_tt, zO_ll, zO_tl, enO_t, enO_l, dEq_ln, dNe_ln, dEq_lt, dNe_lt, -List.getD_eq_getElem?_getD, -List.map_map, -List.map_take, -List.map_drop, rg, lp, b0, b1, m, ad]
theorem both (hd : d.length = n) (hn : n ≤ 9) (H : ∀ k, k < n → P_next_knot [.list (iL fl), .list (iL tp), knD k (sumF (at0 d) k)] = pr (knD (amg d k (n - k)) (sumF (at0 d) (amg d k (n - k))))) : ∀ (m k : Nat) (acc : List Dt), n - k ≤ m → k ≤ n → acc.length + (n - k) ≤ 100 →
    ∃ L : List Dt, L.length = n - k ∧ (∀ x ∈ L, ∃ q : Rat, x = qD q) ∧ Runs (pw1_even (.int (n : Int))) (pv1_even (.list (iL fl)) (.list (iL tp))) (acc, knD k (sumF (at0 d) k)) (acc ++ L, knD n (sumF (at0 d) n)) ∧
      Runs (pw1_law_33 (.int (n : Int))) (pv1_law_33 (.int (n : Int)) (tI d)) (.list acc, .int (k : Int)) (.list (acc ++ L), .int (n : Int))
  | m, k, acc, h1, h2, h3 => by
    by_cases c : k = n
    · subst c
      exact ⟨[], by simp, (fun x hx => nomatch hx), by rw [List.append_nil]; exact runs_end even_stop, by rw [List.append_nil]; exact runs_end law_stop⟩
    · cases m with
      | zero => omega
      | succ m =>
        have hk : k < n := by omega
        have ab := amg_bd (d := d) k (n - k)
        have ab1 := amg_bd1 (d := d) k (j := n - k) (by omega)
        obtain ⟨s1, s2⟩ := even_step (fl := fl) (tp := tp) hn ab.1 (by omega) (acc := acc) (by omega) (H k hk)
        obtain ⟨t1, t2⟩ := law_step hd hn hk (acc := acc) (by omega)
        obtain ⟨L, l1, l2, l3, l4⟩ := both hd hn H m (amg d k (n - k)) (acc ++ List.replicate (amg d k (n - k) - k) (qD (slo d k (amg d k (n - k))))) (by omega) (by omega) (by rw [List.length_append, List.length_replicate]; omega)
        refine ⟨List.replicate (amg d k (n - k) - k) (qD (slo d k (amg d k (n - k)))) ++ L, by rw [List.length_append, List.length_replicate, l1]; omega, fun x hx => ?_, ?_, ?_⟩
        · rcases List.mem_append.1 hx with hx | hx
          · exact ⟨_, List.eq_of_mem_replicate hx⟩
          · exact l2 x hx
        · rw [← List.append_assoc]; exact runs_step s1 s2 l3
        · rw [← List.append_assoc]; exact runs_step t1 t2 l4
end
end DN

namespace DN
open PySem PySem.Spec L2
section
variable {d : List Int} {n : Nat}
theorem addL_zero : ∀ (as : List Int), addL as (List.replicate as.length 0) = as
  | [] => rfl
  | a :: as => by
    show (a + 0) :: addL as (List.replicate as.length 0) = _
    rw [addL_zero as, Int.add_zero]
theorem roo_zero (h1 : 1 ≤ n) : roo (List.replicate n 0) n = List.replicate (n + 1) 0 := by
  unfold roo
  obtain ⟨m, rfl⟩ : ∃ m, n = m + 1 := ⟨n - 1, by omega⟩
  rw [List.take_replicate, show min (m + 1 - 1) (m + 1) = m by omega, List.replicate_succ, List.replicate_succ']
theorem even_zero (hd : Ent d n) (h1 : 1 ≤ n) (hn : n ≤ 9) : P_even [tI d, tI (List.replicate n 0)] = pr (.tuple (ones d 0 n)) := by
  have fo := flo_ok (d := d) (n := n)
  have tz : addL (flo d n) (roo (List.replicate n 0) n) = flo d n := by
    have z := addL_zero (flo d n)
    rw [fo.1] at z
    rw [roo_zero h1]
    exact z
  have R := const_run (d := d) (fl := flo d n) (tp := flo d n) hn (fun k hk => nk_zero fo (by omega) hk) n 0 [] (by omega) (by omega) (by simp; omega)
  rw [List.nil_append, Nat.sub_zero] at R
  exact even_frame hd (ent_rep (by omega) (by omega)) h1 hn (by unfold ones; simp; omega) (by rw [tz]; exact R)
def wid (d : List Int) (n : Nat) : List Int := addL (flo d n) (roo (List.replicate n 999) n)
theorem wid_ok (h1 : 1 ≤ n) : (wid d n).length = n + 1 ∧ (∀ g, 1 ≤ g → g < n → at0 (wid d n) g = sumF (at0 d) g + 999) ∧ at0 (wid d n) n = sumF (at0 d) n := by
  have fo := flo_ok (d := d) (n := n)
  have rl := roo_len (r := List.replicate n 999) (n := n) (by simp) h1
  have ll : (flo d n).length = (roo (List.replicate n 999) n).length := by rw [fo.1, rl]
  have ro : ∀ g, 1 ≤ g → g < n → at0 (roo (List.replicate n 999) n) g = 999 := fun g a b => by
    obtain ⟨i, rfl⟩ : ∃ i, g = i + 1 := ⟨g - 1, by omega⟩
    show at0 ((List.replicate n 999).take (n - 1) ++ [0]) i = 999
    unfold at0
    rw [List.getD_eq_getElem?_getD, List.getElem?_append_left (by rw [List.length_take, List.length_replicate]; omega), List.take_replicate, List.getElem?_replicate, if_pos (by omega)]
    rfl
  have rn : at0 (roo (List.replicate n 999) n) n = 0 := by
    obtain ⟨i, hi⟩ : ∃ i, n = i + 1 := ⟨n - 1, by omega⟩
    have z : at0 ((List.replicate n (999 : Int)).take (n - 1) ++ [0]) i = 0 := by
      unfold at0
      rw [List.getD_eq_getElem?_getD, List.getElem?_append_right (by rw [List.length_take, List.length_replicate]; omega), List.length_take, List.length_replicate, show i - min (n - 1) n = 0 by omega]
      rfl
    rw [show at0 (roo (List.replicate n 999) n) n = at0 (roo (List.replicate n 999) n) (i + 1) by rw [hi]]
    exact z
  refine ⟨by unfold wid; rw [addL_len ll, fo.1], fun g a b => ?_, ?_⟩
  · unfold wid
    rw [at0_addL ll (by rw [fo.1]; omega), fo.2 g (by omega), ro g a b]
  · unfold wid
    rw [at0_addL ll (by rw [fo.1]; omega), fo.2 n (by omega), rn, Int.add_zero]
theorem wide_at (hd : Ent d n) (h1 : 1 ≤ n) (hn : n ≤ 9) (lo : Low d) {k : Nat} (hk : k < n) : P_next_knot [.list (iL (flo d n)), .list (iL (wid d n)), knD k (sumF (at0 d) k)] = pr (knD (amg d k (n - k)) (sumF (at0 d) (amg d k (n - k)))) := by
  obtain ⟨a, b, c⟩ := wid_ok (d := d) h1
  exact nk_wide flo_ok a b c hn lo hk
theorem even_wide (hd : Ent d n) (h1 : 1 ≤ n) (hn : n ≤ 9) {L : List Dt} {K : Dt} (hL : L.length ≤ 1000) (R : Runs (pw1_even (.int (n : Int))) (pv1_even (.list (iL (flo d n))) (.list (iL (wid d n)))) ([], knD 0 0) (L, K)) : P_even [tI d, tI (List.replicate n 999)] = pr (.tuple L) :=
  even_frame hd (ent_rep (by omega) (by omega)) h1 hn hL R
def Fal (d : List Int) : Prop := ∀ i j, i ≤ j → at0 d j ≤ at0 d i
theorem fal_sum (h : Fal d) {k : Nat} : ∀ j, sumF (at0 d) (k + j) - sumF (at0 d) k ≤ (j : Int) * at0 d k ∧ ((j : Int) * at0 d k ≤ sumF (at0 d) (k + j) - sumF (at0 d) k → Cst d k (k + j))
  | 0 => ⟨by simp, fun _ i a b => by omega⟩
  | j + 1 => by
    obtain ⟨a, b⟩ := fal_sum h (k := k) j
    have e : sumF (at0 d) (k + (j + 1)) = sumF (at0 d) (k + j) + at0 d (k + j) := rfl
    have f := h k (k + j) (by omega)
    have m : ((j + 1 : Nat) : Int) * at0 d k = (j : Int) * at0 d k + at0 d k := by rw [show ((j + 1 : Nat) : Int) = (j : Int) + 1 by omega, Int.add_mul, Int.one_mul]
    rw [e, m]
    refine ⟨by omega, fun c i u v => ?_⟩
    by_cases q : i < k + j
    · exact b (by omega) i u q
    · have ei : i = k + j := by omega
      rw [ei]
      omega
theorem fal_amg (h : Fal d) {k : Nat} : ∀ j, Cst d k (amg d k j)
  | 0 => fun i a b => by
    have b : i < k + 1 := b
    rw [show i = k by omega]
  | j + 1 => by
    have ih := fal_amg h (k := k) j
    have am := amg_bd (d := d) k j
    show Cst d k (if slo d k (k + 1 + j) < slo d k (amg d k j) then amg d k j else k + 1 + j)
    by_cases c : slo d k (k + 1 + j) < slo d k (amg d k j)
    · rw [if_pos c]; exact ih
    · rw [if_neg c]
      obtain ⟨x, hx⟩ : ∃ x, amg d k j = k + x := ⟨amg d k j - k, by omega⟩
      rw [hx] at c ih
      have s := cst_sum x ih
      unfold slo at c
      rw [nz_lt (by omega) (by omega), s, show sumF (at0 d) k + (x : Int) * at0 d k - sumF (at0 d) k = (x : Int) * at0 d k by omega, show k + x - k = x by omega, show k + 1 + j - k = j + 1 by omega] at c
      have fs := (fal_sum h (k := k) (j + 1)).2
      rw [show k + (j + 1) = k + 1 + j by omega] at fs
      refine fs ?_
      have xp : (0 : Int) < (x : Int) := by omega
      have c2 : ¬ (x : Int) * (sumF (at0 d) (k + 1 + j) - sumF (at0 d) k) < (x : Int) * (((j + 1 : Nat) : Int) * at0 d k) := fun w => c (by
        rw [Int.mul_comm (sumF (at0 d) (k + 1 + j) - sumF (at0 d) k)]
        rw [show (x : Int) * at0 d k * ((j + 1 : Nat) : Int) = (x : Int) * (((j + 1 : Nat) : Int) * at0 d k) by rw [Int.mul_assoc, Int.mul_comm (at0 d k)]]
        exact w)
      have c3 : ¬ (sumF (at0 d) (k + 1 + j) - sumF (at0 d) k) < (((j + 1 : Nat) : Int) * at0 d k) := fun w => c2 (Int.mul_lt_mul_of_pos_left w xp)
      omega
theorem even_fal (hd : Ent d n) (h1 : 1 ≤ n) (hn : n ≤ 9) (lo : Low d) (fa : Fal d) : P_even [tI d, tI (List.replicate n 999)] = pr (.tuple (ones d 0 n)) := by
  have R := const_run (d := d) (fl := flo d n) (tp := wid d n) hn (fun k hk => ⟨amg d k (n - k), (amg_bd k _).1, by have := amg_bd1 (d := d) k (j := n - k) (by omega); omega, fal_amg fa _, wide_at hd h1 hn lo hk⟩) n 0 [] (by omega) (by omega) (by simp; omega)
  rw [List.nil_append, Nat.sub_zero] at R
  exact even_wide hd h1 hn (by unfold ones; simp; omega) R
def Ris (d : List Int) (n : Nat) : Prop := ∀ i j, i ≤ j → j < n → at0 d i ≤ at0 d j
theorem ris_sum (h : Ris d n) : ∀ j t, t < n → j ≤ t → sumF (at0 d) j ≤ (j : Int) * at0 d t
  | 0, t, _, _ => by show (0 : Int) ≤ _; simp
  | j + 1, t, ht, hj => by
    have ih := ris_sum h j t ht (by omega)
    have e := h j t (by omega) ht
    show sumF (at0 d) j + at0 d j ≤ _
    rw [show ((j + 1 : Nat) : Int) = (j : Int) + 1 by omega, Int.add_mul, Int.one_mul]
    omega
theorem ris_amg (h : Ris d n) : ∀ j, j + 1 ≤ n → amg d 0 (j + 1) = j + 1
  | 0, _ => by
    show (if _ then 0 + 1 else 0 + 1 + 0) = 1
    split <;> rfl
  | j + 1, hj => by
    have ih := ris_amg h j (by omega)
    have c : ¬ slo d 0 (0 + 1 + (j + 1)) < slo d 0 (amg d 0 (j + 1)) := by
      rw [ih]
      unfold slo
      rw [nz_lt (by omega) (by omega)]
      have z0 : sumF (at0 d) 0 = 0 := rfl
      have e : sumF (at0 d) (0 + 1 + (j + 1)) = sumF (at0 d) (j + 1) + at0 d (j + 1) := by rw [show 0 + 1 + (j + 1) = j + 1 + 1 by omega]; rfl
      have s := ris_sum h (j + 1) (j + 1) (by omega) (by omega)
      rw [z0, e, show ((0 + 1 + (j + 1) - 0 : Nat) : Int) = ((j + 1 : Nat) : Int) + 1 by omega, show j + 1 - 0 = j + 1 by omega]
      generalize sumF (at0 d) (j + 1) = S at *
      generalize at0 d (j + 1) = X at *
      generalize ((j + 1 : Nat) : Int) = J at *
      rw [Int.sub_zero, Int.sub_zero, Int.add_mul, Int.mul_add, Int.mul_one, Int.mul_comm X J]
      omega
    show (if slo d 0 (0 + 1 + (j + 1)) < slo d 0 (amg d 0 (j + 1)) then amg d 0 (j + 1) else 0 + 1 + (j + 1)) = _
    rw [if_neg c]
    omega
theorem even_ris (hd : Ent d n) (h1 : 1 ≤ n) (hn : n ≤ 9) (lo : Low d) (ri : Ris d n) : P_even [tI d, tI (List.replicate n 999)] = pr (.tuple (List.replicate n (qD (nz (sumF (at0 d) n) n)))) := by
  obtain ⟨q, hq⟩ : ∃ q, n = q + 1 := ⟨n - 1, by omega⟩
  have am : amg d 0 (n - 0) = n := by
    rw [show n - 0 = q + 1 by omega, ris_amg ri q (by omega)]
    omega
  have nk := wide_at hd h1 hn lo (k := 0) (by omega)
  rw [am] at nk
  obtain ⟨s1, s2⟩ := even_step (fl := flo d n) (tp := wid d n) (d := d) hn (k := 0) (e := n) (by omega) (Nat.le_refl _) (acc := []) (by simp) nk
  have R := runs_step s1 s2 (runs_end even_stop)
  rw [List.nil_append, Nat.sub_zero] at R
  have e : slo d 0 n = nz (sumF (at0 d) n) n := by
    unfold slo
    rw [show sumF (at0 d) n - sumF (at0 d) 0 = sumF (at0 d) n from Int.sub_zero _, Nat.sub_zero]
  rw [e] at R
  exact even_wide hd h1 hn (by simp; omega) R
end
end DN

namespace DN
open PySem PySem.Spec L2
theorem perm_sum {l m : List Int} (h : l.Perm m) : l.sum = m.sum := by
  induction h with
  | nil => rfl
  | cons x _ ih => rw [List.sum_cons, List.sum_cons, ih]
  | swap x y l => rw [List.sum_cons, List.sum_cons, List.sum_cons, List.sum_cons]; omega
  | trans _ _ a b => rw [a, b]
theorem perm_ent {l m : List Int} {n : Nat} (h : l.Perm m) (e : Ent m n) : Ent l n := ⟨by rw [h.length_eq, e.1], fun x hx => e.2 x (h.mem_iff.1 hx)⟩
theorem low_of {d : List Int} (h : ∀ x ∈ d, 0 ≤ x ∧ x ≤ 79) : Low d := fun i => by
  by_cases q : i < d.length
  · rw [← at0_eq q]; exact h _ (List.getElem_mem _)
  · have z : at0 d i = 0 := by unfold at0; rw [List.getD_eq_getElem?_getD, List.getElem?_eq_none (by omega)]; rfl
    omega
theorem ris_of {d : List Int} {n : Nat} (hl : d.length = n) (h : d.Pairwise (· ≤ ·)) : Ris d n := fun i j hij hj => by
  by_cases c : i = j
  · rw [c]; exact Int.le_refl _
  · have z := List.pairwise_iff_getElem.1 h i j (by omega) (by omega) (by omega)
    rw [at0_eq (show i < d.length by omega), at0_eq (show j < d.length by omega)] at z
    exact z
theorem fal_of {d : List Int} (lo : Low d) (h : d.Pairwise (· ≥ ·)) : Fal d := fun i j hij => by
  by_cases q : j < d.length
  · by_cases c : i = j
    · rw [c]; exact Int.le_refl _
    · have z := List.pairwise_iff_getElem.1 h i j (by omega) (by omega) (by omega)
      rw [at0_eq (show i < d.length by omega), at0_eq (show j < d.length by omega)] at z
      exact z
  · have z : at0 d j = 0 := by unfold at0; rw [List.getD_eq_getElem?_getD, List.getElem?_eq_none (by omega)]; rfl
    rw [z]
    exact (lo i).1
theorem ones_map {d : List Int} {n : Nat} (hl : d.length = n) : ones d 0 n = d.map fun x => PyData.tuple [.int x, .int 1] := by
  unfold ones
  refine List.ext_getElem (by simp [hl]) fun i h1 h2 => ?_
  rw [List.getElem_map, List.getElem_map, List.getElem_range, Nat.zero_add, at0_eq]
theorem alkT {L : List Dt} (hl : L.length ≤ 1000) (h : ∀ x ∈ L, ∃ a b : Int, x = .tuple [.int a, .int b]) : ofFn (fn__law_alike 6) [.tuple L, .tuple L] = pr (.bool true) := alk_p (d := .tuple L) ⟨hl, fun x hx => by
  obtain ⟨a, b, rfl⟩ := h x hx
  exact ⟨by simp, fun y hy => by
    simp only [List.mem_cons, List.not_mem_nil, or_false] at hy
    rcases hy with rfl | rfl <;> trivial⟩⟩
theorem toI (d : List Int) : toInts (iL d) = some d := by
  induction d with
  | nil => rfl
  | cons x d ih =>
    show (toInts (iL d)).map (x :: ·) = _
    rw [ih]; rfl
set_option maxHeartbeats 2000000 in
theorem k90 (ns : List Int) (hns : ns.length ≤ 63) : (fn_law_33 [.val (scr ns)]).isTrue := by
  obtain ⟨v, r1, v1, hr1, e1⟩ := takenN_r (rw4 ns 3390) (m := 9) (by omega) (by omega)
  rw [show ((9 : Nat) : Int) = 9 from rfl] at e1
  obtain ⟨n, hn⟩ : ∃ n, n = 1 + v := ⟨_, rfl⟩
  have ev : (1 : Int) + (v : Int) = (n : Int) := by omega
  have b1 : 1 ≤ n := by omega
  have b2 : n ≤ 9 := by omega
  obtain ⟨m, r2, hm, hr2, e2⟩ := pick_r hr1 (ts := [3, 12, 80]) (by decide) (by decide)
  have e2 : ofFnR fn__law_pick [.list [.int 3, .int 12, .int 80]] r1 = .ok (.int m) r2 := e2
  have m80 : 0 < m ∧ m ≤ 80 := by
    simp only [List.mem_cons, List.not_mem_nil, or_false] at hm
    omega
  obtain ⟨d, r3, dl, db, hr3, e3'⟩ := entries_ok hr2 (n := n) (by omega) (m := m) m80.1 (by omega)
  have e3 : ofFnR fn__law_entries [.int (n : Int), .int m] r2 = .ok (tI d) r3 := ofFnR_ok (ds := [.int (n : Int), .int m]) e3'
  have dbb : ∀ x ∈ d, 0 ≤ x ∧ x ≤ 79 := fun x hx => by have := db x hx; omega
  have hE : Ent d n := ⟨dl, fun x hx => by have := dbb x hx; omega⟩
  have lo := low_of dbb
  -- sorted
  obtain ⟨a, ha⟩ : ∃ a, a = isort ltI d := ⟨_, rfl⟩
  have pa : a.Perm d := by rw [ha]; exact isort_perm d
  have sa : a.Pairwise (· ≤ ·) := by
    rw [ha]
    exact (isort_srtd ltI_swo d).imp fun {x y} h => by
      have := of_decide_eq_false h; omega
  have Ea := perm_ent pa hE
  have la := low_of (d := a) fun x hx => dbb x (pa.mem_iff.1 hx)
  obtain ⟨f, hf⟩ : ∃ f, f = a.reverse := ⟨_, rfl⟩
  have pf : f.Perm d := by rw [hf]; exact (List.reverse_perm a).trans pa
  have Ef := perm_ent pf hE
  have lf := low_of (d := f) fun x hx => dbb x (pf.mem_iff.1 hx)
  have ff := fal_of lf (by rw [hf]; exact List.pairwise_reverse.2 sa)
  have s1 : dSorted [tI d] = some (.list (iL a)) := by
    show (toInts (iL d)).map _ = _
    rw [toI, ha]; rfl
  have s2 : dSortR [tI d] = some (.list (iL f)) := by
    show (toInts (iL d)).map _ = _
    rw [toI, hf, ha]; rfl
  -- what even tells
  have v0 := even_zero hE b1 b2
  rw [ones_map dl] at v0
  have v3 := even_fal Ef b1 b2 lf ff
  rw [ones_map Ef.1] at v3
  have v4 := even_ris Ea b1 b2 la (ris_of Ea.1 sa)
  rw [sumF_all Ea.1, perm_sum pa] at v4
  obtain ⟨L, l1, l2, l3, l4⟩ := both (fl := flo d n) (tp := wid d n) dl b2 (fun k hk => wide_at hE b1 b2 lo hk) n 0 [] (by omega) (by omega) (by simp; omega)
  rw [List.nil_append] at l3 l4
  have v2 := even_wide hE b1 b2 (by omega) l3
  have w2 := runs_while l4
  rw [show ((0 : Nat) : Int) = 0 from rfl] at w2
  -- alike
  have k0 := alkT (L := d.map fun x => PyData.tuple [.int x, .int 1]) (by simp; omega) (fun x hx => by
    obtain ⟨y, _, rfl⟩ := List.mem_map.1 hx
    exact ⟨_, _, rfl⟩)
  have k3 := alkT (L := f.map fun x => PyData.tuple [.int x, .int 1]) (by rw [List.length_map, Ef.1]; omega) (fun x hx => by
    obtain ⟨y, _, rfl⟩ := List.mem_map.1 hx
    exact ⟨_, _, rfl⟩)
  have k2 := alkT (L := L) (by omega) (fun x hx => by
    obtain ⟨q, rfl⟩ := l2 x hx
    exact ⟨_, _, rfl⟩)
  have k4 := alkT (L := List.replicate n (qD (nz d.sum n))) (by simp; omega) (fun x hx => by
    rw [List.eq_of_mem_replicate hx]
    exact ⟨_, _, rfl⟩)
  have c0 := dMulT_n (n := n) (x := 0) (by omega)
  have c9 := dMulT_n (n := n) (x := 999) (by omega)
  have cl := dMulT_x (X := qD (nz d.sum n)) (n := n) (by omega)
  have m1 := mapP_map (q := pc1_law_33) PyData.int (fun x => .tuple [.int x, .int 1]) d (fun x _ => by
    unfold pc1_law_33
    simp (implicitDefEqProofs := false) [pb_pr, pb_pz, pb_pb, po_s, po_n, pif_t, pif_f, lift0_pr, pnx_pr, p2_d, p1_d, pB_b, pasB_d, pasT_d, pT_n, pT_b, pT_i, pT_l, pT_t, pchain_d, pandM_d, porM_d, pnotM_d, pandV_d, porV_d, pnotV_d, pite_d, pcons_d, ptup_d, plst_d, pfrz_d, pix_d, ppart_d, pI_i, pslice_d, pcall_d, ptyp_d, pL_l, pN_i, pS_l, pS_t, plis_d, pcat_d, piter_d, prng_d, prev_d, pfn_d, pfnR_d, paug_i, paugX_d, pcomp_d, pcomp2_d, un1_d, un2_t, un3_t, un4_t, pel_d, pel2_d, pend_l, pend_r, sd0, sd1, sd2, sd3, sd4, sd5, sd6, dAdd_int, dSub_int, dLt_int, dLe_int, dGt_int, dGe_int, dFdv_int, dMod_int, dMulR, dMulL, dNeg_int, pow18, dIs_none, dIsN_none, dIs_b, dIsN_b, isNone, dEq_id, dNe_id, dEq_bb, dNe_bb, dIx_l, dIx_t, dSl_l, dSl_t, dLen_l, dLen_t, dInt_i, dTup_l, dTup_t, dAbs_i, items_l, items_t, isDt_n, isDt_i, isDt_b, isDt_s, isDt_t, isDt_l, zO_tt, zO_ll, zO_tl, enO_t, enO_l, dEq_ln, dNe_ln, dEq_lt, dNe_lt, -List.getD_eq_getElem?_getD, -List.map_map, -List.map_take, -List.map_drop])
  have m2 := mapP_map (q := pc2_law_33) PyData.int (fun x => .tuple [.int x, .int 1]) f (fun x _ => by
    unfold pc2_law_33
    simp (implicitDefEqProofs := false) [pb_pr, pb_pz, pb_pb, po_s, po_n, pif_t, pif_f, lift0_pr, pnx_pr, p2_d, p1_d, pB_b, pasB_d, pasT_d, pT_n, pT_b, pT_i, pT_l, pT_t, pchain_d, pandM_d, porM_d, pnotM_d, pandV_d, porV_d, pnotV_d, pite_d, pcons_d, ptup_d, plst_d, pfrz_d, pix_d, ppart_d, pI_i, pslice_d, pcall_d, ptyp_d, pL_l, pN_i, pS_l, pS_t, plis_d, pcat_d, piter_d, prng_d, prev_d, pfn_d, pfnR_d, paug_i, paugX_d, pcomp_d, pcomp2_d, un1_d, un2_t, un3_t, un4_t, pel_d, pel2_d, pend_l, pend_r, sd0, sd1, sd2, sd3, sd4, sd5, sd6, dAdd_int, dSub_int, dLt_int, dLe_int, dGt_int, dGe_int, dFdv_int, dMod_int, dMulR, dMulL, dNeg_int, pow18, dIs_none, dIsN_none, dIs_b, dIsN_b, isNone, dEq_id, dNe_id, dEq_bb, dNe_bb, dIx_l, dIx_t, dSl_l, dSl_t, dLen_l, dLen_t, dInt_i, dTup_l, dTup_t, dAbs_i, items_l, items_t, isDt_n, isDt_i, isDt_b, isDt_s, isDt_t, isDt_l, zO_tt, zO_ll, zO_tl, enO_t, enO_l, dEq_ln, dNe_ln, dEq_lt, dNe_lt, -List.getD_eq_getElem?_getD, -List.map_map, -List.map_take, -List.map_drop])
  have z1 : decide (d.length < sizeLine) = true := sl_lt (by omega)
  have z2 : decide (f.length < sizeLine) = true := sl_lt (by rw [Ef.1]; omega)
  have sm := sumT_iL d
  have lv := P_lowered_ok (t := d.sum) (b := n) (by omega) (by omega)
  rw [← nz_of (by omega)] at lv
  refine true_of J_law_33 ?_
  unfold P_law_33
  simp (implicitDefEqProofs := false) [pb_pr, pb_pz, pb_pb, po_s, po_n, pif_t, pif_f, lift0_pr, pnx_pr, p2_d, p1_d, pB_b, pasB_d, pasT_d, pT_n, pT_b, pT_i, pT_l, pT_t, pchain_d, pandM_d, porM_d, pnotM_d, pandV_d, porV_d, pnotV_d, pite_d, pcons_d, ptup_d, plst_d, pfrz_d, pix_d, ppart_d, pI_i, pslice_d, pcall_d, ptyp_d, pL_l, pN_i, pS_l, pS_t, plis_d, pcat_d, piter_d, prng_d, prev_d, pfn_d, pfnR_d, paug_i, paugX_d, pcomp_d, pcomp2_d, un1_d, un2_t, un3_t, un4_t, pel_d, pel2_d, pend_l, pend_r, sd0, sd1, sd2, sd3, sd4, sd5, sd6, dAdd_int, dSub_int, dLt_int, dLe_int, dGt_int, dGe_int, dFdv_int, dMod_int, dMulR, dMulL, dNeg_int, pow18, dIs_none, dIsN_none, dIs_b, dIsN_b, isNone, dEq_id, dNe_id, dEq_bb, dNe_bb, dIx_l, dIx_t, dSl_l, dSl_t, dLen_l, dLen_t, dInt_i, dTup_l, dTup_t, dAbs_i, items_l, items_t, isDt_n, isDt_i, isDt_b, isDt_s, isDt_t, isDt_l, zO_tt, zO_ll, zO_tl, enO_t, enO_l, dEq_ln, dNe_ln, dEq_lt, dNe_lt, -List.getD_eq_getElem?_getD, -List.map_map, -List.map_take, -List.map_drop]
  refine prow_ok (r' := r3) ?_
  clear l3 l4 hf ha
  generalize d.map (fun x => PyData.tuple [.int x, .int 1]) = O1 at *
  generalize f.map (fun x => PyData.tuple [.int x, .int 1]) = O2 at *
  generalize List.replicate n (qD (nz d.sum n)) = O3 at *
  generalize qD (nz d.sum n) = LV at *
  generalize tI (List.replicate n 0) = Z0 at *
  generalize tI (List.replicate n 999) = Z9 at *
  simp (implicitDefEqProofs := false) [pb_pr, pb_pz, pb_pb, po_s, po_n, pif_t, pif_f, lift0_pr, pnx_pr, p2_d, p1_d, pB_b, pasB_d, pasT_d, pT_n, pT_b, pT_i, pT_l, pT_t, pchain_d, pandM_d, porM_d, pnotM_d, pandV_d, porV_d, pnotV_d, pite_d, pcons_d, ptup_d, plst_d, pfrz_d, pix_d, ppart_d, pI_i, pslice_d, pcall_d, ptyp_d, pL_l, pN_i, pS_l, pS_t, plis_d, pcat_d, piter_d, prng_d, prev_d, pfn_d, pfnR_d, paug_i, paugX_d, pcomp_d, pcomp2_d, un1_d, un2_t, un3_t, un4_t, pel_d, pel2_d, pend_l, pend_r, sd0, sd1, sd2, sd3, sd4, sd5, sd6, dAdd_int, dSub_int, dLt_int, dLe_int, dGt_int, dGe_int, dFdv_int, dMod_int, dMulR, dMulL, dNeg_int, pow18, dIs_none, dIsN_none, dIs_b, dIsN_b, isNone, dEq_id, dNe_id, dEq_bb, dNe_bb, dIx_l, dIx_t, dSl_l, dSl_t, dLen_l, dLen_t, dInt_i, dTup_l, dTup_t, dAbs_i, items_l, items_t, isDt_n, isDt_i, isDt_b, isDt_s, isDt_t, isDt_l, zO_tt, zO_ll, zO_tl, enO_t, enO_l, dEq_ln, dNe_ln, dEq_lt, dNe_lt, -List.getD_eq_getElem?_getD, -List.map_map, -List.map_take, -List.map_drop, pb_ex, lift0_ex, praise_d, ptry_go, ptry_rt, ptry_ex, sd7, sd8, sd9, sd10, sd11, sd12, sd13, ppick_n, ppk_s, atp2_0, atp2_1, at5_0, at5_1, at5_2, at5_3, at5_4, at6_0, at6_1, at6_2, at6_3, at6_4, at6_5, at7_0, at7_1, at7_2, at7_3, at7_4, at7_5, at7_6, pb_ap, rb_ok, pr_ap, pnx_ap, nx_ok, e1, ev, e2, e3, c0, c9, cl, m1, m2, z1, z2, sm, lv, s1, s2, v0, v2, v3, v4, w2, k0, k2, k3, k4]
end DN

namespace DN.lotplans_k90_known_even_amounts
open PySem PySem.Spec L2 DN
def tp (i : Nat) : Stmt := PySem.Challenge.pw_lotplans_k90_known_even_amounts.main.body.getD i (.Pass ⟨0, 0, 0, 0⟩)
abbrev s__law_taken : Stmt := tp 21
abbrev s__law_entries : Stmt := tp 24
abbrev s__law_lowered : Stmt := tp 25
abbrev s__law_alike : Stmt := tp 23
abbrev s__law_pick : Stmt := tp 22
abbrev s_is_tuple_of : Stmt := tp 8
abbrev s_is_integer : Stmt := tp 7
abbrev s_is_entry : Stmt := tp 9
abbrev s_are_entries : Stmt := tp 10
abbrev s_are_some_entries : Stmt := tp 11
abbrev s_check_both : Stmt := tp 16
abbrev s_is_less : Stmt := tp 14
abbrev s_ratio : Stmt := tp 13
abbrev s_slope : Stmt := tp 19
abbrev s_next_knot : Stmt := tp 18
abbrev s_even : Stmt := tp 17
abbrev s__law_less : Stmt := tp 26
abbrev s_law : Stmt := tp 27
structure Zs (mg : Str → Option Value) : Prop where
  z_abs : mg "abs" = none
  z_all : mg "all" = none
  z_bool : mg "bool" = none
  z_gcd : mg "gcd" = some (.builtin "math.gcd")
  z_int : mg "int" = none
  z_isinstance : mg "isinstance" = none
  z_len : mg "len" = none
  z_list : mg "list" = none
  z_range : mg "range" = none
  z_sorted : mg "sorted" = none
  z_str : mg "str" = none
  z_sum : mg "sum" = none
  z_tuple : mg "tuple" = none
  z_type : mg "type" = none
  z_zip : mg "zip" = none
structure Cs (K : PySem.W.Frag) (mg : Str → Option Value) : Prop where
  c_GREATEST_ENTRY : ∃ (v : V) (u : Value), mg "GREATEST_ENTRY" = some u ∧ RelV v u ∧ ∀ F, Df K F v k_GREATEST_ENTRY
  c_MOST_PERIODS : ∃ (v : V) (u : Value), mg "MOST_PERIODS" = some u ∧ RelV v u ∧ ∀ F, Df K F v k_MOST_PERIODS

structure Xs (P : Program) (K : PySem.W.Frag) (mg : Str → Option Value) (a_BadRooms : Addr) : Prop where
  ve : mg "ValueError" = none
  xt : XTab K mg [(("BadRooms" : Str), a_BadRooms)]
  m_BadRooms : (("BadRooms" : Str), a_BadRooms) ∈ ([(("BadRooms" : Str), a_BadRooms)] : List (Str × Addr))
  x_BadRooms : ClT K mg [(("BadRooms" : Str), a_BadRooms)] "BadRooms"
section
variable {P : Program} {w : World} {K : PySem.W.Frag} {mg : Str → Option Value} {base : Heap} {a_BadRooms : Addr}
theorem sc__law_taken : FnScope ["row", "many", "cell", "found"] ["row", "many"] (defScope s__law_taken) := ⟨rfl, rfl, rfl, by decide +kernel, rfl, by decide +kernel, by decide +kernel⟩
theorem d__law_taken (A : At0 K mg "_law_taken" s__law_taken) (Z : Zs mg) (C : Cs K mg) (XX : Xs P K mg a_BadRooms)  : Dn P w K mg base (eiK [(("BadRooms" : Str), a_BadRooms)]) "_law_taken" 2 1 fn__law_taken := by
  refine dn_mk (N := ["row", "many", "cell", "found"]) (k := 0) A sc__law_taken rfl rfl (fun _ _ _ _ _ _ us hl => match us, hl with | [_, _], _ => rfl) (fun f0 cdv A outer s H E G hp => ?_)
  exact (fss_cons (fs_if (ft_gt (fe_oIx G 0 fe_int) fe_int) (fss_cons (fs_set G 3 (fe_mod (fe_intc G Z.z_int (fa_cons (fe_oIx G 0 fe_int) fa_nil)) (fe_var G 1)))
      (fss_cons (fs_putIx G 0 (fe_fdv (fe_oIx G 0 fe_int) (fe_var G 1)) fe_int)
      (fss_one (fs_ret (fe_var G 3))))) fss_nil)
      (fss_cons (fs_putIx G 0 (fe_add G (fe_oIx G 0 fe_int) fe_int) fe_int)
      (fss_cons (fs_if (ft_gt (fe_oIx G 0 fe_int) (fe_len G Z.z_len (fa_cons (fe_oIx G 0 fe_int) fa_nil))) (fss_cons (fs_putIx G 0 (fe_mod (fe_intc G Z.z_int (fa_cons (fe_add G (fe_mul (fe_oIx G 0 fe_int) fe_int) fe_int) fa_nil)) fe_int) fe_int)
      (fss_one (fs_ret (fe_mod (fe_intc G Z.z_int (fa_cons (fe_fdv (fe_oIx G 0 fe_int) fe_int) fa_nil)) (fe_var G 1))))) fss_nil)
      (fss_cons (fs_set G 2 (fe_ix G (fe_oIx G 0 fe_int) (fe_sub (fe_oIx G 0 fe_int) fe_int)))
      (fss_cons (fs_putIx G 0 (fe_mod (fe_intc G Z.z_int (fa_cons (fe_add G (fe_add G (fe_mul (fe_oIx G 0 fe_int) fe_int) (fe_var G 2)) fe_int) fa_nil)) fe_int) fe_int)
      (fss_cons (fs_if (ft_ge (fe_var G 2) (fe_pow fe_int fe_int)) (fss_one (fs_putIx G 0 (fe_fdv (fe_var G 2) (fe_var G 1)) fe_int)) fss_nil)
      (fss_one (fs_ret (fe_mod (fe_intc G Z.z_int (fa_cons (fe_var G 2) fa_nil)) (fe_var G 1))))))))))
theorem sc__law_entries : FnScope ["row", "many", "most", "at"] ["row", "many", "most"] (defScope s__law_entries) := ⟨rfl, rfl, rfl, by decide +kernel, rfl, by decide +kernel, by decide +kernel⟩
theorem d__law_entries (A : At0 K mg "_law_entries" s__law_entries) (Z : Zs mg) (C : Cs K mg) (XX : Xs P K mg a_BadRooms) (D__law_taken : Dn P w K mg base (eiK [(("BadRooms" : Str), a_BadRooms)]) "_law_taken" 2 1 fn__law_taken) : Dn P w K mg base (eiK [(("BadRooms" : Str), a_BadRooms)]) "_law_entries" 3 2 fn__law_entries := by
  refine dn_mk (N := ["row", "many", "most", "at"]) (k := 1) A sc__law_entries rfl rfl (fun _ _ _ _ _ _ us hl => match us, hl with | [_, _, _], _ => rfl) (fun f0 cdv A outer s H E G hp => ?_)
  exact (fss_one (fs_ret (fe_tuple G Z.z_tuple (fa_cons (fe_of (fo_comp G [("at", 3)] (defScope s__law_entries) (fi_range1 G Z.z_range (fa_cons (fe_var G 1) fa_nil)) (fg_name (G.blk _) 3) fts_nil (fe_callDR (G.blk _) D__law_taken (by decide) 0 (fa_cons (fe_var (G.blk _) 2) fa_nil) (len_succ (len_cons len_nil))))) fa_nil))))
theorem sc__law_lowered : FnScope ["top", "low", "turn", "sign", "one", "other"] ["top", "low"] (defScope s__law_lowered) := ⟨rfl, rfl, rfl, by decide +kernel, rfl, by decide +kernel, by decide +kernel⟩
theorem d__law_lowered (A : At0 K mg "_law_lowered" s__law_lowered) (Z : Zs mg) (C : Cs K mg) (XX : Xs P K mg a_BadRooms)  : Dn P w K mg base (eiK [(("BadRooms" : Str), a_BadRooms)]) "_law_lowered" 2 1 fn__law_lowered := by
  refine dn_mk (N := ["top", "low", "turn", "sign", "one", "other"]) (k := 0) A sc__law_lowered rfl rfl (fun _ _ _ _ _ _ us hl => match us, hl with | [_, _], _ => rfl) (fun f0 cdv A outer s H E G hp => ?_)
  exact (fss_cons (fs_par G 4 5 (fx_e (fe_abs G Z.z_abs (fa_cons (fe_var G 0) fa_nil))) (fx_e (fe_abs G Z.z_abs (fa_cons (fe_var G 1) fa_nil))))
      (fss_cons (fs_for G (fi_range1 G Z.z_range (fa_cons fe_int fa_nil)) (fg_name G 2) (fss_cons (fs_if (ft_eq G (fe_var G 5) fe_int) (fss_one fs_break) fss_nil)
      (fss_one (fs_par G 4 5 (fx_e (fe_var G 5)) (fx_e (fe_mod (fe_var G 4) (fe_var G 5)))))) hp)
      (fss_cons (fs_set G 3 (fe_ite (ft_gt (fe_var G 1) fe_int) fe_int (fe_neg fe_int)))
      (fss_one (fs_ret (fe_tup (fa_cons (fe_fdv (fe_mul (fe_var G 3) (fe_var G 0)) (fe_var G 4)) (fa_cons (fe_fdv (fe_mul (fe_var G 3) (fe_var G 1)) (fe_var G 4)) fa_nil))))))))
theorem sc__law_alike : FnScope ["found", "due", "k"] ["found", "due"] (defScope s__law_alike) := ⟨rfl, rfl, rfl, by decide +kernel, rfl, by decide +kernel, by decide +kernel⟩
theorem d__law_alike (A : At0 K mg "_law_alike" s__law_alike) (Z : Zs mg) (C : Cs K mg) (XX : Xs P K mg a_BadRooms)  : ∀ fuel, Dn P w K mg base (eiK [(("BadRooms" : Str), a_BadRooms)]) "_law_alike" 2 (fuel + 1) (fn__law_alike fuel)
  | 0 => by
    obtain ⟨f0, fd, F, hx⟩ := A
    exact ⟨f0, fd, ["found", "due"], ⟨fun vs H Q E h => (by obtain ⟨_, _, _, _, _, _, z⟩ := h; exact z.elim), fun A outer s H args us vs Q E hr e0 hb hv h => (by obtain ⟨_, _, _, _, _, _, z⟩ := h; exact z.elim)⟩, hx, F.kp, F.binds fun _ _ _ _ _ _ us hl => match us, hl with | [_, _], _ => rfl⟩
  | fuel + 1 => by
    have D__law_alike := d__law_alike A Z C XX  fuel
    refine dn_mk (N := ["found", "due", "k"]) (k := fuel + 1) A sc__law_alike rfl (by omega) (fun _ _ _ _ _ _ us hl => match us, hl with | [_, _], _ => rfl) (fun f0 cdv A outer s H E G hp => ?_)
    exact (fss_cons (fs_if (ft_tru G (fe_isi2 G Z.z_isinstance Z.z_tuple PyProof.Rows.boot_tuple Z.z_list PyProof.Rows.boot_list (fe_var G 1))) (fss_cons (fs_if (ft_of (fw_or (ft_not (ft_tru G (fe_isi2 G Z.z_isinstance Z.z_tuple PyProof.Rows.boot_tuple Z.z_list PyProof.Rows.boot_list (fe_var G 0)))) (fw_or1 (ft_ne G (fe_isi G Z.z_isinstance Z.z_list PyProof.Rows.boot_list (fe_var G 0)) (fe_isi G Z.z_isinstance Z.z_list PyProof.Rows.boot_list (fe_var G 1)))))) (fss_one (fs_ret fe_bl)) fss_nil)
      (fss_cons (fs_if (ft_ne G (fe_len G Z.z_len (fa_cons (fe_var G 0) fa_nil)) (fe_len G Z.z_len (fa_cons (fe_var G 1) fa_nil))) (fss_one (fs_ret fe_bl)) fss_nil)
      (fss_one (fs_ret (fe_eq G (fe_of (fo_comp G [("k", 2)] (defScope s__law_alike) (fi_range1 G Z.z_range (fa_cons (fe_len G Z.z_len (fa_cons (fe_var G 1) fa_nil)) fa_nil)) (fg_name (G.blk _) 2) (fts_one (ft_not (ft_tru (G.blk _) (fe_callD (G.blk _) D__law_alike (Nat.le_refl _) (fa_cons (fe_ix (G.blk _) (fe_var (G.blk _) 0) (fe_var (G.blk _) 2)) (fa_cons (fe_ix (G.blk _) (fe_var (G.blk _) 1) (fe_var (G.blk _) 2)) fa_nil)) (len_cons (len_cons len_nil)))))) (fe_var (G.blk _) 2))) (fe_of (fo_lst fa_nil))))))) fss_nil)
      (fss_cons (fs_if (ft_of (fw_or (ft_is (fe_var G 1) fe_non) (fw_or1 (ft_tru G (fe_isi G Z.z_isinstance Z.z_str PyProof.Rows.boot_str (fe_var G 1)))))) (fss_one (fs_ret (fe_and (fe_eq G (fe_var G 0) (fe_var G 1)) (fe_one (fe_eq G (fe_isi G Z.z_isinstance Z.z_str PyProof.Rows.boot_str (fe_var G 0)) (fe_isi G Z.z_isinstance Z.z_str PyProof.Rows.boot_str (fe_var G 1))))))) fss_nil)
      (fss_one (fs_ret (fe_and (fe_isi G Z.z_isinstance Z.z_int PyProof.Rows.boot_int (fe_var G 0)) (fe_and (fe_eq G (fe_isi G Z.z_isinstance Z.z_bool PyProof.Rows.boot_bool (fe_var G 0)) (fe_isi G Z.z_isinstance Z.z_bool PyProof.Rows.boot_bool (fe_var G 1))) (fe_one (fe_eq G (fe_var G 0) (fe_var G 1)))))))))
theorem sc__law_pick : FnScope ["row", "things"] ["row", "things"] (defScope s__law_pick) := ⟨rfl, rfl, rfl, by decide +kernel, rfl, by decide +kernel, by decide +kernel⟩
theorem d__law_pick (A : At0 K mg "_law_pick" s__law_pick) (Z : Zs mg) (C : Cs K mg) (XX : Xs P K mg a_BadRooms) (D__law_taken : Dn P w K mg base (eiK [(("BadRooms" : Str), a_BadRooms)]) "_law_taken" 2 1 fn__law_taken) : Dn P w K mg base (eiK [(("BadRooms" : Str), a_BadRooms)]) "_law_pick" 2 2 fn__law_pick := by
  refine dn_mk (N := ["row", "things"]) (k := 1) A sc__law_pick rfl rfl (fun _ _ _ _ _ _ us hl => match us, hl with | [_, _], _ => rfl) (fun f0 cdv A outer s H E G hp => ?_)
  exact (fss_one (fs_ret (fe_ix G (fe_var G 1) (fe_callDR G D__law_taken (by decide) 0 (fa_cons (fe_len G Z.z_len (fa_cons (fe_var G 1) fa_nil)) fa_nil) (len_succ (len_cons len_nil))))))
theorem sc_is_tuple_of : FnScope ["value", "many"] ["value", "many"] (defScope s_is_tuple_of) := ⟨rfl, rfl, rfl, by decide +kernel, rfl, by decide +kernel, by decide +kernel⟩
theorem d_is_tuple_of (A : At0 K mg "is_tuple_of" s_is_tuple_of) (Z : Zs mg) (C : Cs K mg) (XX : Xs P K mg a_BadRooms)  : Dn P w K mg base (eiK [(("BadRooms" : Str), a_BadRooms)]) "is_tuple_of" 2 1 fn_is_tuple_of := by
  refine dn_mk (N := ["value", "many"]) (k := 0) A sc_is_tuple_of rfl rfl (fun _ _ _ _ _ _ us hl => match us, hl with | [_, _], _ => rfl) (fun f0 cdv A outer s H E G hp => ?_)
  exact (fss_one (fs_ret (fe_and (fe_isi G Z.z_isinstance Z.z_tuple PyProof.Rows.boot_tuple (fe_var G 0)) (fe_one (fe_eq G (fe_len G Z.z_len (fa_cons (fe_var G 0) fa_nil)) (fe_var G 1))))))
theorem sc_is_integer : FnScope ["value"] ["value"] (defScope s_is_integer) := ⟨rfl, rfl, rfl, by decide +kernel, rfl, by decide +kernel, by decide +kernel⟩
theorem d_is_integer (A : At0 K mg "is_integer" s_is_integer) (Z : Zs mg) (C : Cs K mg) (XX : Xs P K mg a_BadRooms)  : Dn P w K mg base (eiK [(("BadRooms" : Str), a_BadRooms)]) "is_integer" 1 1 fn_is_integer := by
  refine dn_mk (N := ["value"]) (k := 0) A sc_is_integer rfl rfl (fun _ _ _ _ _ _ us hl => match us, hl with | [_], _ => rfl) (fun f0 cdv A outer s H E G hp => ?_)
  exact (fss_one (fs_ret (fe_typ G Z.z_type Z.z_int PyProof.Rows.boot_int (fe_var G 0))))
theorem sc_is_entry : FnScope ["value"] ["value"] (defScope s_is_entry) := ⟨rfl, rfl, rfl, by decide +kernel, rfl, by decide +kernel, by decide +kernel⟩
theorem d_is_entry (A : At0 K mg "is_entry" s_is_entry) (Z : Zs mg) (C : Cs K mg) (XX : Xs P K mg a_BadRooms) (D_is_integer : Dn P w K mg base (eiK [(("BadRooms" : Str), a_BadRooms)]) "is_integer" 1 1 fn_is_integer) : Dn P w K mg base (eiK [(("BadRooms" : Str), a_BadRooms)]) "is_entry" 1 2 fn_is_entry := by
  obtain ⟨w_GREATEST_ENTRY, u_GREATEST_ENTRY, c_GREATEST_ENTRY⟩ := C.c_GREATEST_ENTRY
  refine dn_mk (N := ["value"]) (k := 1) A sc_is_entry rfl rfl (fun _ _ _ _ _ _ us hl => match us, hl with | [_], _ => rfl) (fun f0 cdv A outer s H E G hp => ?_)
  exact (fss_one (fs_ret (fe_and (fe_callD G D_is_integer (by decide) (fa_cons (fe_var G 0) fa_nil) (len_cons len_nil)) (fe_one (fe_lele fe_int (fe_var G 0) (fe_con G c_GREATEST_ENTRY.1 c_GREATEST_ENTRY.2.1 c_GREATEST_ENTRY.2.2))))))
theorem sc_are_entries : FnScope ["value", "many", "thing"] ["value", "many"] (defScope s_are_entries) := ⟨rfl, rfl, rfl, by decide +kernel, rfl, by decide +kernel, by decide +kernel⟩
theorem d_are_entries (A : At0 K mg "are_entries" s_are_entries) (Z : Zs mg) (C : Cs K mg) (XX : Xs P K mg a_BadRooms) (D_is_tuple_of : Dn P w K mg base (eiK [(("BadRooms" : Str), a_BadRooms)]) "is_tuple_of" 2 1 fn_is_tuple_of) (D_is_entry : Dn P w K mg base (eiK [(("BadRooms" : Str), a_BadRooms)]) "is_entry" 1 2 fn_is_entry) : Dn P w K mg base (eiK [(("BadRooms" : Str), a_BadRooms)]) "are_entries" 2 3 fn_are_entries := by
  refine dn_mk (N := ["value", "many", "thing"]) (k := 2) A sc_are_entries rfl rfl (fun _ _ _ _ _ _ us hl => match us, hl with | [_, _], _ => rfl) (fun f0 cdv A outer s H E G hp => ?_)
  exact (fss_one (fs_ret (fe_and (fe_callD G D_is_tuple_of (by decide) (fa_cons (fe_var G 0) (fa_cons (fe_var G 1) fa_nil)) (len_cons (len_cons len_nil))) (fe_one (fe_all G Z.z_all (fa_cons (fe_of (fo_comp G [("thing", 2)] (defScope s_are_entries) (fi_seq G (fe_var G 0)) (fg_name (G.blk _) 2) fts_nil (fe_callD (G.blk _) D_is_entry (by decide) (fa_cons (fe_var (G.blk _) 2) fa_nil) (len_cons len_nil)))) fa_nil))))))
theorem sc_are_some_entries : FnScope ["value", "most"] ["value", "most"] (defScope s_are_some_entries) := ⟨rfl, rfl, rfl, by decide +kernel, rfl, by decide +kernel, by decide +kernel⟩
theorem d_are_some_entries (A : At0 K mg "are_some_entries" s_are_some_entries) (Z : Zs mg) (C : Cs K mg) (XX : Xs P K mg a_BadRooms) (D_are_entries : Dn P w K mg base (eiK [(("BadRooms" : Str), a_BadRooms)]) "are_entries" 2 3 fn_are_entries) : Dn P w K mg base (eiK [(("BadRooms" : Str), a_BadRooms)]) "are_some_entries" 2 4 fn_are_some_entries := by
  refine dn_mk (N := ["value", "most"]) (k := 3) A sc_are_some_entries rfl rfl (fun _ _ _ _ _ _ us hl => match us, hl with | [_, _], _ => rfl) (fun f0 cdv A outer s H E G hp => ?_)
  exact (fss_one (fs_ret (fe_and (fe_isi G Z.z_isinstance Z.z_tuple PyProof.Rows.boot_tuple (fe_var G 0)) (fe_and (fe_lele fe_int (fe_len G Z.z_len (fa_cons (fe_var G 0) fa_nil)) (fe_var G 1)) (fe_one (fe_callD G D_are_entries (by decide) (fa_cons (fe_var G 0) (fa_cons (fe_len G Z.z_len (fa_cons (fe_var G 0) fa_nil)) fa_nil)) (len_cons (len_cons len_nil))))))))
theorem sc_check_both : FnScope ["demands", "rooms"] ["demands", "rooms"] (defScope s_check_both) := ⟨rfl, rfl, rfl, by decide +kernel, rfl, by decide +kernel, by decide +kernel⟩
theorem d_check_both (A : At0 K mg "check_both" s_check_both) (Z : Zs mg) (C : Cs K mg) (XX : Xs P K mg a_BadRooms) (D_are_some_entries : Dn P w K mg base (eiK [(("BadRooms" : Str), a_BadRooms)]) "are_some_entries" 2 4 fn_are_some_entries) (D_are_entries : Dn P w K mg base (eiK [(("BadRooms" : Str), a_BadRooms)]) "are_entries" 2 3 fn_are_entries) : Dn P w K mg base (eiK [(("BadRooms" : Str), a_BadRooms)]) "check_both" 2 5 fn_check_both := by
  obtain ⟨w_MOST_PERIODS, u_MOST_PERIODS, c_MOST_PERIODS⟩ := C.c_MOST_PERIODS
  refine dn_mk (N := ["demands", "rooms"]) (k := 4) A sc_check_both rfl rfl (fun _ _ _ _ _ _ us hl => match us, hl with | [_, _], _ => rfl) (fun f0 cdv A outer s H E G hp => ?_)
  exact (fss_one (fs_if (ft_of (fw_or (ft_not (ft_tru G (fe_callD G D_are_some_entries (by decide) (fa_cons (fe_var G 0) (fa_cons (fe_con G c_MOST_PERIODS.1 c_MOST_PERIODS.2.1 c_MOST_PERIODS.2.2) fa_nil)) (len_cons (len_cons len_nil))))) (fw_or1 (ft_not (ft_tru G (fe_callD G D_are_entries (by decide) (fa_cons (fe_var G 1) (fa_cons (fe_len G Z.z_len (fa_cons (fe_var G 0) fa_nil)) fa_nil)) (len_cons (len_cons len_nil)))))))) (fss_one (fs_raiseT G (fun _ => takes_of rfl rfl rfl rfl) XX.x_BadRooms)) fss_nil))
theorem sc_is_less : FnScope ["one", "other"] ["one", "other"] (defScope s_is_less) := ⟨rfl, rfl, rfl, by decide +kernel, rfl, by decide +kernel, by decide +kernel⟩
theorem d_is_less (A : At0 K mg "is_less" s_is_less) (Z : Zs mg) (C : Cs K mg) (XX : Xs P K mg a_BadRooms)  : Dn P w K mg base (eiK [(("BadRooms" : Str), a_BadRooms)]) "is_less" 2 1 fn_is_less := by
  refine dn_mk (N := ["one", "other"]) (k := 0) A sc_is_less rfl rfl (fun _ _ _ _ _ _ us hl => match us, hl with | [_, _], _ => rfl) (fun f0 cdv A outer s H E G hp => ?_)
  exact (fss_one (fs_ret (fe_lt (fe_mul (fe_ix G (fe_var G 0) fe_int) (fe_ix G (fe_var G 1) fe_int)) (fe_mul (fe_ix G (fe_var G 1) fe_int) (fe_ix G (fe_var G 0) fe_int)))))
theorem sc_ratio : FnScope ["top", "bottom", "shared"] ["top", "bottom"] (defScope s_ratio) := ⟨rfl, rfl, rfl, by decide +kernel, rfl, by decide +kernel, by decide +kernel⟩
theorem d_ratio (A : At0 K mg "ratio" s_ratio) (Z : Zs mg) (C : Cs K mg) (XX : Xs P K mg a_BadRooms)  : Dn P w K mg base (eiK [(("BadRooms" : Str), a_BadRooms)]) "ratio" 2 1 fn_ratio := by
  refine dn_mk (N := ["top", "bottom", "shared"]) (k := 0) A sc_ratio rfl rfl (fun _ _ _ _ _ _ us hl => match us, hl with | [_, _], _ => rfl) (fun f0 cdv A outer s H E G hp => ?_)
  exact (fss_cons (fs_set G 2 (fe_gcd G Z.z_gcd (fa_cons (fe_var G 0) (fa_cons (fe_var G 1) fa_nil))))
      (fss_one (fs_ret (fe_tup (fa_cons (fe_fdv (fe_var G 0) (fe_var G 2)) (fa_cons (fe_fdv (fe_var G 1) (fe_var G 2)) fa_nil))))))
theorem sc_slope : FnScope ["one", "other"] ["one", "other"] (defScope s_slope) := ⟨rfl, rfl, rfl, by decide +kernel, rfl, by decide +kernel, by decide +kernel⟩
theorem d_slope (A : At0 K mg "slope" s_slope) (Z : Zs mg) (C : Cs K mg) (XX : Xs P K mg a_BadRooms) (D_ratio : Dn P w K mg base (eiK [(("BadRooms" : Str), a_BadRooms)]) "ratio" 2 1 fn_ratio) : Dn P w K mg base (eiK [(("BadRooms" : Str), a_BadRooms)]) "slope" 2 2 fn_slope := by
  refine dn_mk (N := ["one", "other"]) (k := 1) A sc_slope rfl rfl (fun _ _ _ _ _ _ us hl => match us, hl with | [_, _], _ => rfl) (fun f0 cdv A outer s H E G hp => ?_)
  exact (fss_one (fs_ret (fe_callD G D_ratio (by decide) (fa_cons (fe_sub (fe_ix G (fe_var G 1) fe_int) (fe_ix G (fe_var G 0) fe_int)) (fa_cons (fe_sub (fe_ix G (fe_var G 1) fe_int) (fe_ix G (fe_var G 0) fe_int)) fa_nil)) (len_cons (len_cons len_nil)))))
theorem sc_next_knot : FnScope ["floors", "tops", "knot", "place", "goal", "steepest", "flattest", "floor", "top"] ["floors", "tops", "knot"] (defScope s_next_knot) := ⟨rfl, rfl, rfl, by decide +kernel, rfl, by decide +kernel, by decide +kernel⟩
theorem d_next_knot (A : At0 K mg "next_knot" s_next_knot) (Z : Zs mg) (C : Cs K mg) (XX : Xs P K mg a_BadRooms) (D_is_less : Dn P w K mg base (eiK [(("BadRooms" : Str), a_BadRooms)]) "is_less" 2 1 fn_is_less) (D_slope : Dn P w K mg base (eiK [(("BadRooms" : Str), a_BadRooms)]) "slope" 2 2 fn_slope) : Dn P w K mg base (eiK [(("BadRooms" : Str), a_BadRooms)]) "next_knot" 3 3 fn_next_knot := by
  refine dn_mk (N := ["floors", "tops", "knot", "place", "goal", "steepest", "flattest", "floor", "top"]) (k := 2) A sc_next_knot rfl rfl (fun _ _ _ _ _ _ us hl => match us, hl with | [_, _, _], _ => rfl) (fun f0 cdv A outer s H E G hp => ?_)
  exact (fss_cons (fs_set G 3 (fe_add G (fe_ix G (fe_var G 2) fe_int) fe_int))
      (fss_cons (fs_par G 5 6 (fx_e (fe_tup (fa_cons (fe_var G 3) (fa_cons (fe_ix G (fe_var G 0) (fe_var G 3)) fa_nil)))) (fx_e (fe_tup (fa_cons (fe_var G 3) (fa_cons (fe_ix G (fe_var G 1) (fe_var G 3)) fa_nil)))))
      (fss_cons (fs_for G (fi_range2 G Z.z_range (fa_cons (fe_var G 3) (fa_cons (fe_len G Z.z_len (fa_cons (fe_var G 0) fa_nil)) fa_nil))) (fg_name G 4) (fss_cons (fs_par G 7 8 (fx_e (fe_tup (fa_cons (fe_var G 4) (fa_cons (fe_ix G (fe_var G 0) (fe_var G 4)) fa_nil)))) (fx_e (fe_tup (fa_cons (fe_var G 4) (fa_cons (fe_ix G (fe_var G 1) (fe_var G 4)) fa_nil)))))
      (fss_cons (fs_if (ft_tru G (fe_callD G D_is_less (by decide) (fa_cons (fe_callD G D_slope (by decide) (fa_cons (fe_var G 2) (fa_cons (fe_var G 6) fa_nil)) (len_cons (len_cons len_nil))) (fa_cons (fe_callD G D_slope (by decide) (fa_cons (fe_var G 2) (fa_cons (fe_var G 7) fa_nil)) (len_cons (len_cons len_nil))) fa_nil)) (len_cons (len_cons len_nil)))) (fss_one (fs_ret (fe_var G 6))) fss_nil)
      (fss_cons (fs_if (ft_tru G (fe_callD G D_is_less (by decide) (fa_cons (fe_callD G D_slope (by decide) (fa_cons (fe_var G 2) (fa_cons (fe_var G 8) fa_nil)) (len_cons (len_cons len_nil))) (fa_cons (fe_callD G D_slope (by decide) (fa_cons (fe_var G 2) (fa_cons (fe_var G 5) fa_nil)) (len_cons (len_cons len_nil))) fa_nil)) (len_cons (len_cons len_nil)))) (fss_one (fs_ret (fe_var G 5))) fss_nil)
      (fss_cons (fs_if (ft_not (ft_tru G (fe_callD G D_is_less (by decide) (fa_cons (fe_callD G D_slope (by decide) (fa_cons (fe_var G 2) (fa_cons (fe_var G 7) fa_nil)) (len_cons (len_cons len_nil))) (fa_cons (fe_callD G D_slope (by decide) (fa_cons (fe_var G 2) (fa_cons (fe_var G 5) fa_nil)) (len_cons (len_cons len_nil))) fa_nil)) (len_cons (len_cons len_nil))))) (fss_one (fs_set G 5 (fe_var G 7))) fss_nil)
      (fss_one (fs_if (ft_not (ft_tru G (fe_callD G D_is_less (by decide) (fa_cons (fe_callD G D_slope (by decide) (fa_cons (fe_var G 2) (fa_cons (fe_var G 6) fa_nil)) (len_cons (len_cons len_nil))) (fa_cons (fe_callD G D_slope (by decide) (fa_cons (fe_var G 2) (fa_cons (fe_var G 8) fa_nil)) (len_cons (len_cons len_nil))) fa_nil)) (len_cons (len_cons len_nil))))) (fss_one (fs_set G 6 (fe_var G 8))) fss_nil)))))) hp)
      (fss_one (fs_ret (fe_var G 5))))))
theorem sc_even : FnScope ["demands", "rooms", "many", "floors", "tops", "amounts", "knot", "goal", "place", "floor", "room"] ["demands", "rooms"] (defScope s_even) := ⟨rfl, rfl, rfl, by decide +kernel, rfl, by decide +kernel, by decide +kernel⟩
theorem d_even (A : At0 K mg "even" s_even) (Z : Zs mg) (C : Cs K mg) (XX : Xs P K mg a_BadRooms) (D_check_both : Dn P w K mg base (eiK [(("BadRooms" : Str), a_BadRooms)]) "check_both" 2 5 fn_check_both) (D_next_knot : Dn P w K mg base (eiK [(("BadRooms" : Str), a_BadRooms)]) "next_knot" 3 3 fn_next_knot) (D_slope : Dn P w K mg base (eiK [(("BadRooms" : Str), a_BadRooms)]) "slope" 2 2 fn_slope) : Dn P w K mg base (eiK [(("BadRooms" : Str), a_BadRooms)]) "even" 2 6 fn_even := by
  refine dn_mk (N := ["demands", "rooms", "many", "floors", "tops", "amounts", "knot", "goal", "place", "floor", "room"]) (k := 5) A sc_even rfl rfl (fun _ _ _ _ _ _ us hl => match us, hl with | [_, _], _ => rfl) (fun f0 cdv A outer s H E G hp => ?_)
  exact (fss_cons (fs_expr (fe_callD G D_check_both (by decide) (fa_cons (fe_var G 0) (fa_cons (fe_var G 1) fa_nil)) (len_cons (len_cons len_nil))))
      (fss_cons (fs_set G 2 (fe_len G Z.z_len (fa_cons (fe_var G 0) fa_nil)))
      (fss_cons (fs_setCV G 3 [("place", 8)] (defScope s_even) (fi_range1 G Z.z_range (fa_cons (fe_add G (fe_var G 2) fe_int) fa_nil)) (fg_name (G.blk _) 8) fts_nil (fe_sum (G.blk _) Z.z_sum (fa_cons (fe_slice (G.blk _) (fe_var (G.blk _) 0) fp_none (fp_some (fe_var (G.blk _) 8))) fa_nil)))
      (fss_cons (fs_setCV G 4 [("floor", 9), ("room", 10)] (defScope s_even) (fi_zip G Z.z_zip (fa_cons (fe_var G 3) (fa_cons (fe_add G (fe_add G (fe_tup (fa_cons fe_int fa_nil)) (fe_slice G (fe_var G 1) fp_none (fp_some (fe_neg fe_int)))) (fe_tup (fa_cons fe_int fa_nil))) fa_nil))) (fg_tup (G.blk _) (fgs_cons (G.blk _) 9 (fgs_cons (G.blk _) 10 fgs_nil)) (hz := (gl_cons (gl_cons gl_nil)))) fts_nil (fe_add (G.blk _) (fe_var (G.blk _) 9) (fe_var (G.blk _) 10)))
      (fss_cons (fs_setO G 5 (fo_lst fa_nil))
      (fss_cons (fs_set G 6 (fe_tup (fa_cons fe_int (fa_cons fe_int fa_nil))))
      (fss_cons (fs_while (ft_lt (fe_ix G (fe_var G 6) fe_int) (fe_var G 2)) (fss_cons (fs_set G 7 (fe_callD G D_next_knot (by decide) (fa_cons (fe_var G 3) (fa_cons (fe_var G 4) (fa_cons (fe_var G 6) fa_nil))) (len_cons (len_cons (len_cons len_nil)))))
      (fss_cons (fs_ext G 5 (fe_mul (fe_of (fo_lst (fa_cons (fe_callD G D_slope (by decide) (fa_cons (fe_var G 6) (fa_cons (fe_var G 7) fa_nil)) (len_cons (len_cons len_nil))) fa_nil))) (fe_sub (fe_ix G (fe_var G 7) fe_int) (fe_ix G (fe_var G 6) fe_int))))
      (fss_one (fs_set G 6 (fe_var G 7))))) hp)
      (fss_one (fs_ret (fe_tuple G Z.z_tuple (fa_cons (fe_var G 5) fa_nil)))))))))))
theorem sc__law_less : FnScope ["one", "other"] ["one", "other"] (defScope s__law_less) := ⟨rfl, rfl, rfl, by decide +kernel, rfl, by decide +kernel, by decide +kernel⟩
theorem d__law_less (A : At0 K mg "_law_less" s__law_less) (Z : Zs mg) (C : Cs K mg) (XX : Xs P K mg a_BadRooms)  : Dn P w K mg base (eiK [(("BadRooms" : Str), a_BadRooms)]) "_law_less" 2 1 fn__law_less := by
  refine dn_mk (N := ["one", "other"]) (k := 0) A sc__law_less rfl rfl (fun _ _ _ _ _ _ us hl => match us, hl with | [_, _], _ => rfl) (fun f0 cdv A outer s H E G hp => ?_)
  exact (fss_one (fs_ret (fe_lt (fe_mul (fe_ix G (fe_var G 0) fe_int) (fe_ix G (fe_var G 1) fe_int)) (fe_mul (fe_ix G (fe_var G 1) fe_int) (fe_ix G (fe_var G 0) fe_int)))))
theorem sc_law : FnScope ["script", "row", "many", "demands", "level", "falling", "due", "at", "best", "end", "told", "demand"] ["script"] (defScope s_law) := ⟨rfl, rfl, rfl, by decide +kernel, rfl, by decide +kernel, by decide +kernel⟩
theorem all_ok (A__law_taken : At0 K mg "_law_taken" s__law_taken) (A__law_entries : At0 K mg "_law_entries" s__law_entries) (A__law_lowered : At0 K mg "_law_lowered" s__law_lowered) (A__law_alike : At0 K mg "_law_alike" s__law_alike) (A__law_pick : At0 K mg "_law_pick" s__law_pick) (A_is_tuple_of : At0 K mg "is_tuple_of" s_is_tuple_of) (A_is_integer : At0 K mg "is_integer" s_is_integer) (A_is_entry : At0 K mg "is_entry" s_is_entry) (A_are_entries : At0 K mg "are_entries" s_are_entries) (A_are_some_entries : At0 K mg "are_some_entries" s_are_some_entries) (A_check_both : At0 K mg "check_both" s_check_both) (A_is_less : At0 K mg "is_less" s_is_less) (A_ratio : At0 K mg "ratio" s_ratio) (A_slope : At0 K mg "slope" s_slope) (A_next_knot : At0 K mg "next_knot" s_next_knot) (A_even : At0 K mg "even" s_even) (A__law_less : At0 K mg "_law_less" s__law_less) (Z : Zs mg) (C : Cs K mg) (XX : Xs P K mg a_BadRooms) {f0 : Addr} {fd : FuncData} (F : Fun K "law" "law" s_law f0 fd) : FnOk P w K mg base (L2.CX P w) 8 f0 fd ["script"] (spD K (eiK [(("BadRooms" : Str), a_BadRooms)]) 1 (fnD 12 bd_law_33)) := by
  have D__law_taken := d__law_taken (P := P) (w := w) (base := base) A__law_taken Z C XX 
  have D__law_entries := d__law_entries (P := P) (w := w) (base := base) A__law_entries Z C XX D__law_taken
  have D__law_lowered := d__law_lowered (P := P) (w := w) (base := base) A__law_lowered Z C XX 
  have R__law_alike := d__law_alike (P := P) (w := w) (base := base) A__law_alike Z C XX 
  have D__law_pick := d__law_pick (P := P) (w := w) (base := base) A__law_pick Z C XX D__law_taken
  have D_is_tuple_of := d_is_tuple_of (P := P) (w := w) (base := base) A_is_tuple_of Z C XX 
  have D_is_integer := d_is_integer (P := P) (w := w) (base := base) A_is_integer Z C XX 
  have D_is_entry := d_is_entry (P := P) (w := w) (base := base) A_is_entry Z C XX D_is_integer
  have D_are_entries := d_are_entries (P := P) (w := w) (base := base) A_are_entries Z C XX D_is_tuple_of D_is_entry
  have D_are_some_entries := d_are_some_entries (P := P) (w := w) (base := base) A_are_some_entries Z C XX D_are_entries
  have D_check_both := d_check_both (P := P) (w := w) (base := base) A_check_both Z C XX D_are_some_entries D_are_entries
  have D_is_less := d_is_less (P := P) (w := w) (base := base) A_is_less Z C XX 
  have D_ratio := d_ratio (P := P) (w := w) (base := base) A_ratio Z C XX 
  have D_slope := d_slope (P := P) (w := w) (base := base) A_slope Z C XX D_ratio
  have D_next_knot := d_next_knot (P := P) (w := w) (base := base) A_next_knot Z C XX D_is_less D_slope
  have D_even := d_even (P := P) (w := w) (base := base) A_even Z C XX D_check_both D_next_knot D_slope
  have D__law_less := d__law_less (P := P) (w := w) (base := base) A__law_less Z C XX 
  have D__law_alike := R__law_alike 6
  refine ok_fn (k := 7) (N := ["script", "row", "many", "demands", "level", "falling", "due", "at", "best", "end", "told", "demand"]) (qual := "law") F sc_law rfl (fun cdv A outer s H E G hp => ?_)
  exact (fss_cons (fs_setO G 1 (fo_lst (fa_cons (fe_var G 0) (fa_cons fe_int (fa_cons fe_int (fa_cons fe_int fa_nil))))))
      (fss_cons (fs_set G 2 (fe_add G fe_int (fe_callDR G D__law_taken (by decide) 1 (fa_cons fe_int fa_nil) (len_succ (len_cons len_nil)))))
      (fss_cons (fs_set G 3 (fe_callDR G D__law_entries (by decide) 1 (fa_cons (fe_var G 2) (fa_cons (fe_callDR G D__law_pick (by decide) 1 (fa_cons (fe_of (fo_lst (fa_cons fe_int (fa_cons fe_int (fa_cons fe_int fa_nil))))) fa_nil) (len_succ (len_cons len_nil))) fa_nil)) (len_succ (len_cons (len_cons len_nil)))))
      (fss_cons (fs_if (ft_not (ft_tru G (fe_callD G D__law_alike (by decide) (fa_cons (fe_callD G D_even (by decide) (fa_cons (fe_var G 3) (fa_cons (fe_mulT G (fe_tup (fa_cons fe_int fa_nil)) (fe_var G 2)) fa_nil)) (len_cons (len_cons len_nil))) (fa_cons (fe_tuple G Z.z_tuple (fa_cons (fe_of (fo_comp G [("demand", 11)] (defScope s_law) (fi_seq G (fe_var G 3)) (fg_name (G.blk _) 11) fts_nil (fe_tup (fa_cons (fe_var (G.blk _) 11) (fa_cons fe_int fa_nil))))) fa_nil)) fa_nil)) (len_cons (len_cons len_nil))))) (fss_one (fs_ret fe_bl)) fss_nil)
      (fss_cons (fs_par G 6 7 (fx_e (fe_of (fo_lst fa_nil))) (fx_e fe_int))
      (fss_cons (fs_while (ft_lt (fe_var G 7) (fe_var G 2)) (fss_cons (fs_set G 8 fe_non)
      (fss_cons (fs_for G (fi_range2 G Z.z_range (fa_cons (fe_add G (fe_var G 7) fe_int) (fa_cons (fe_add G (fe_var G 2) fe_int) fa_nil))) (fg_name G 9) (fss_cons (fs_set G 10 (fe_callD G D__law_lowered (by decide) (fa_cons (fe_sum G Z.z_sum (fa_cons (fe_slice G (fe_var G 3) (fp_some (fe_var G 7)) (fp_some (fe_var G 9))) fa_nil)) (fa_cons (fe_sub (fe_var G 9) (fe_var G 7)) fa_nil)) (len_cons (len_cons len_nil))))
      (fss_one (fs_if (ft_of (fw_or (ft_is (fe_var G 8) fe_non) (fw_or1 (ft_not (ft_tru G (fe_callD G D__law_less (by decide) (fa_cons (fe_var G 10) (fa_cons (fe_ix G (fe_var G 8) fe_int) fa_nil)) (len_cons (len_cons len_nil)))))))) (fss_one (fs_set G 8 (fe_tup (fa_cons (fe_var G 10) (fa_cons (fe_var G 9) fa_nil))))) fss_nil))) hp)
      (fss_cons (fs_set G 6 (fe_add G (fe_var G 6) (fe_mul (fe_of (fo_lst (fa_cons (fe_ix G (fe_var G 8) fe_int) fa_nil))) (fe_sub (fe_ix G (fe_var G 8) fe_int) (fe_var G 7)))))
      (fss_one (fs_set G 7 (fe_ix G (fe_var G 8) fe_int)))))) hp)
      (fss_cons (fs_if (ft_not (ft_tru G (fe_callD G D__law_alike (by decide) (fa_cons (fe_callD G D_even (by decide) (fa_cons (fe_var G 3) (fa_cons (fe_mulT G (fe_tup (fa_cons fe_int fa_nil)) (fe_var G 2)) fa_nil)) (len_cons (len_cons len_nil))) (fa_cons (fe_tuple G Z.z_tuple (fa_cons (fe_var G 6) fa_nil)) fa_nil)) (len_cons (len_cons len_nil))))) (fss_one (fs_ret fe_bl)) fss_nil)
      (fss_cons (fs_set G 4 (fe_callD G D__law_lowered (by decide) (fa_cons (fe_sum G Z.z_sum (fa_cons (fe_var G 3) fa_nil)) (fa_cons (fe_var G 2) fa_nil)) (len_cons (len_cons len_nil))))
      (fss_cons (fs_set G 5 (fe_tuple G Z.z_tuple (fa_cons (fe_sortR G Z.z_sorted (fa_cons (fe_var G 3) fa_nil)) fa_nil)))
      (fss_cons (fs_if (ft_not (ft_tru G (fe_callD G D__law_alike (by decide) (fa_cons (fe_callD G D_even (by decide) (fa_cons (fe_var G 5) (fa_cons (fe_mulT G (fe_tup (fa_cons fe_int fa_nil)) (fe_var G 2)) fa_nil)) (len_cons (len_cons len_nil))) (fa_cons (fe_tuple G Z.z_tuple (fa_cons (fe_of (fo_comp G [("demand", 11)] (defScope s_law) (fi_seq G (fe_var G 5)) (fg_name (G.blk _) 11) fts_nil (fe_tup (fa_cons (fe_var (G.blk _) 11) (fa_cons fe_int fa_nil))))) fa_nil)) fa_nil)) (len_cons (len_cons len_nil))))) (fss_one (fs_ret fe_bl)) fss_nil)
      (fss_one (fs_ret (fe_callD G D__law_alike (by decide) (fa_cons (fe_callD G D_even (by decide) (fa_cons (fe_tuple G Z.z_tuple (fa_cons (fe_sorted G Z.z_sorted (fa_cons (fe_var G 3) fa_nil)) fa_nil)) (fa_cons (fe_mulT G (fe_tup (fa_cons fe_int fa_nil)) (fe_var G 2)) fa_nil)) (len_cons (len_cons len_nil))) (fa_cons (fe_mulT G (fe_tup (fa_cons (fe_var G 4) fa_nil)) (fe_var G 2)) fa_nil)) (len_cons (len_cons len_nil)))))))))))))))
end
theorem end_mk {l : PySem.W.OpenLaw} {w : World} {K : PySem.W.Frag} {h : Heap} {mg : Str → Option Value} {fa : Addr} {a_BadRooms : Addr} (X : K.In h) (G : h.Ns mainGlobals mg) (hfa : mg "law" = some (.ref fa)) {f : Addr} {oc : Value} {od an : Option Addr} {osl : Array (Option Value)} {kV doc pm cdv ct : Value}
    (a : PySem.W.nsIn K mainGlobals "law" = some (some (.ref f))) (l1 : K.lookup f = some ⟨oc, od, .func (PySem.W.fnOf "law" "law" (defArgs s_law) (defBody s_law) (defScope s_law) .none kV doc pm an cdv ct), osl⟩)
    (c : PySem.W.codeIn K cdv "law" = true) (k : PySem.W.keepIn K (.ref f) = true) (A__law_taken : At0 K mg "_law_taken" s__law_taken) (A__law_entries : At0 K mg "_law_entries" s__law_entries) (A__law_lowered : At0 K mg "_law_lowered" s__law_lowered) (A__law_alike : At0 K mg "_law_alike" s__law_alike) (A__law_pick : At0 K mg "_law_pick" s__law_pick) (A_is_tuple_of : At0 K mg "is_tuple_of" s_is_tuple_of) (A_is_integer : At0 K mg "is_integer" s_is_integer) (A_is_entry : At0 K mg "is_entry" s_is_entry) (A_are_entries : At0 K mg "are_entries" s_are_entries) (A_are_some_entries : At0 K mg "are_some_entries" s_are_some_entries) (A_check_both : At0 K mg "check_both" s_check_both) (A_is_less : At0 K mg "is_less" s_is_less) (A_ratio : At0 K mg "ratio" s_ratio) (A_slope : At0 K mg "slope" s_slope) (A_next_knot : At0 K mg "next_knot" s_next_knot) (A_even : At0 K mg "even" s_even) (A__law_less : At0 K mg "_law_less" s__law_less) (Z : Zs mg) (C : Cs K mg) (XX : Xs l.prog K mg a_BadRooms) :
    ∃ fd : FuncData, (∀ (s : Shared) (v : Value), BindsTo s fd ⟨[v], []⟩ [("script", v)]) ∧ ∀ base : Heap, K.In base → base.Ns mainGlobals mg → FnOk l.prog w K mg base (L2.CX l.prog w) 8 fa fd ["script"] (spT K fn_law_33) := by
  have e := hfa.symm.trans (PySem.W.mg_of X G a)
  cases e
  exact ⟨PySem.W.fnOf "law" "law" (defArgs s_law) (defBody s_law) (defScope s_law) .none kV doc pm an cdv ct, fun s v => .of_eq rfl, fun base _ _ => fn_spT (all_ok A__law_taken A__law_entries A__law_lowered A__law_alike A__law_pick A_is_tuple_of A_is_integer A_is_entry A_are_entries A_are_some_entries A_check_both A_is_less A_ratio A_slope A_next_knot A_even A__law_less Z C XX (fun_mk (st := s_law) l1 c k))⟩
end DN.lotplans_k90_known_even_amounts

theorem DN.lotplans_k90_known_even_amounts.holds (ns : List Int) (h : ns.length ≤ 63) : (DN.fn_law_33 [.val (DN.scr ns)]).isTrue := DN.k90 ns h
open PySem PySem.W PyProof.Rows
set_option maxHeartbeats 0 in
theorem PySem.Challenge.cw_lotplans_k90_known_even_amounts_holds : PySem.Challenge.rw_lotplans_k90_known_even_amounts.Holds := by
  w_on; o_law; k_head; (case hw => w_witness2)
  k_fill
  refine L2.walk_of (l := PySem.Challenge.rw_lotplans_k90_known_even_amounts) (n := 63) (k := 8) (x := "script") (CX := fun w => L2.CX PySem.Challenge.rw_lotplans_k90_known_even_amounts.prog w) (sp := fun w => DN.spT _ DN.fn_law_33) rfl (by decide) rfl ⟨rfl, by decide, by decide⟩ (fun w h Y => by first | exact PySem.W.kIn_of Y | exact PySem.W.km_in_of Y) ?F (fun w H a ns hl hO hS => DN.law_spT hS (DN.lotplans_k90_known_even_amounts.holds ns hl)) (fun _ _ _ _ _ h => DN.law_cx h)
  case F =>
    intro w mg fa h KX G hmg
    have A__law_taken : DN.At0 (L2.KOf KX) mg "_law_taken" DN.lotplans_k90_known_even_amounts.s__law_taken := by refine' DN.at0_mk KX G ?a ?l ?c ?k; (case a => k_is); (case l => k_is); (case c => k_is); (case k => k_is)
    have A__law_entries : DN.At0 (L2.KOf KX) mg "_law_entries" DN.lotplans_k90_known_even_amounts.s__law_entries := by refine' DN.at0_mk KX G ?a ?l ?c ?k; (case a => k_is); (case l => k_is); (case c => k_is); (case k => k_is)
    have A__law_lowered : DN.At0 (L2.KOf KX) mg "_law_lowered" DN.lotplans_k90_known_even_amounts.s__law_lowered := by refine' DN.at0_mk KX G ?a ?l ?c ?k; (case a => k_is); (case l => k_is); (case c => k_is); (case k => k_is)
    have A__law_alike : DN.At0 (L2.KOf KX) mg "_law_alike" DN.lotplans_k90_known_even_amounts.s__law_alike := by refine' DN.at0_mk KX G ?a ?l ?c ?k; (case a => k_is); (case l => k_is); (case c => k_is); (case k => k_is)
    have A__law_pick : DN.At0 (L2.KOf KX) mg "_law_pick" DN.lotplans_k90_known_even_amounts.s__law_pick := by refine' DN.at0_mk KX G ?a ?l ?c ?k; (case a => k_is); (case l => k_is); (case c => k_is); (case k => k_is)
    have A_is_tuple_of : DN.At0 (L2.KOf KX) mg "is_tuple_of" DN.lotplans_k90_known_even_amounts.s_is_tuple_of := by refine' DN.at0_mk KX G ?a ?l ?c ?k; (case a => k_is); (case l => k_is); (case c => k_is); (case k => k_is)
    have A_is_integer : DN.At0 (L2.KOf KX) mg "is_integer" DN.lotplans_k90_known_even_amounts.s_is_integer := by refine' DN.at0_mk KX G ?a ?l ?c ?k; (case a => k_is); (case l => k_is); (case c => k_is); (case k => k_is)
    have A_is_entry : DN.At0 (L2.KOf KX) mg "is_entry" DN.lotplans_k90_known_even_amounts.s_is_entry := by refine' DN.at0_mk KX G ?a ?l ?c ?k; (case a => k_is); (case l => k_is); (case c => k_is); (case k => k_is)
    have A_are_entries : DN.At0 (L2.KOf KX) mg "are_entries" DN.lotplans_k90_known_even_amounts.s_are_entries := by refine' DN.at0_mk KX G ?a ?l ?c ?k; (case a => k_is); (case l => k_is); (case c => k_is); (case k => k_is)
    have A_are_some_entries : DN.At0 (L2.KOf KX) mg "are_some_entries" DN.lotplans_k90_known_even_amounts.s_are_some_entries := by refine' DN.at0_mk KX G ?a ?l ?c ?k; (case a => k_is); (case l => k_is); (case c => k_is); (case k => k_is)
    have A_check_both : DN.At0 (L2.KOf KX) mg "check_both" DN.lotplans_k90_known_even_amounts.s_check_both := by refine' DN.at0_mk KX G ?a ?l ?c ?k; (case a => k_is); (case l => k_is); (case c => k_is); (case k => k_is)
    have A_is_less : DN.At0 (L2.KOf KX) mg "is_less" DN.lotplans_k90_known_even_amounts.s_is_less := by refine' DN.at0_mk KX G ?a ?l ?c ?k; (case a => k_is); (case l => k_is); (case c => k_is); (case k => k_is)
    have A_ratio : DN.At0 (L2.KOf KX) mg "ratio" DN.lotplans_k90_known_even_amounts.s_ratio := by refine' DN.at0_mk KX G ?a ?l ?c ?k; (case a => k_is); (case l => k_is); (case c => k_is); (case k => k_is)
    have A_slope : DN.At0 (L2.KOf KX) mg "slope" DN.lotplans_k90_known_even_amounts.s_slope := by refine' DN.at0_mk KX G ?a ?l ?c ?k; (case a => k_is); (case l => k_is); (case c => k_is); (case k => k_is)
    have A_next_knot : DN.At0 (L2.KOf KX) mg "next_knot" DN.lotplans_k90_known_even_amounts.s_next_knot := by refine' DN.at0_mk KX G ?a ?l ?c ?k; (case a => k_is); (case l => k_is); (case c => k_is); (case k => k_is)
    have A_even : DN.At0 (L2.KOf KX) mg "even" DN.lotplans_k90_known_even_amounts.s_even := by refine' DN.at0_mk KX G ?a ?l ?c ?k; (case a => k_is); (case l => k_is); (case c => k_is); (case k => k_is)
    have A__law_less : DN.At0 (L2.KOf KX) mg "_law_less" DN.lotplans_k90_known_even_amounts.s__law_less := by refine' DN.at0_mk KX G ?a ?l ?c ?k; (case a => k_is); (case l => k_is); (case c => k_is); (case k => k_is)
    have C_GREATEST_ENTRY := by refine' DN.con_mk (x := "GREATEST_ENTRY") (i := 999) KX G ?a; (case a => k_is)
    have C_MOST_PERIODS := by refine' DN.con_mk (x := "MOST_PERIODS") (i := 12) KX G ?a; (case a => k_is)
    have Z : DN.lotplans_k90_known_even_amounts.Zs mg := by refine' DN.lotplans_k90_known_even_amounts.Zs.mk (PySem.W.mg_none_of KX G ?z0) (PySem.W.mg_none_of KX G ?z1) (PySem.W.mg_none_of KX G ?z2) (PySem.W.mg_of KX G ?z3) (PySem.W.mg_none_of KX G ?z4) (PySem.W.mg_none_of KX G ?z5) (PySem.W.mg_none_of KX G ?z6) (PySem.W.mg_none_of KX G ?z7) (PySem.W.mg_none_of KX G ?z8) (PySem.W.mg_none_of KX G ?z9) (PySem.W.mg_none_of KX G ?z10) (PySem.W.mg_none_of KX G ?z11) (PySem.W.mg_none_of KX G ?z12) (PySem.W.mg_none_of KX G ?z13) (PySem.W.mg_none_of KX G ?z14); (case z0 => k_is); (case z1 => k_is); (case z2 => k_is); (case z3 => k_is); (case z4 => k_is); (case z5 => k_is); (case z6 => k_is); (case z7 => k_is); (case z8 => k_is); (case z9 => k_is); (case z10 => k_is); (case z11 => k_is); (case z12 => k_is); (case z13 => k_is); (case z14 => k_is)
    refine' DN.lotplans_k90_known_even_amounts.end_mk KX G hmg ?a ?l ?c ?k A__law_taken A__law_entries A__law_lowered A__law_alike A__law_pick A_is_tuple_of A_is_integer A_is_entry A_are_entries A_are_some_entries A_check_both A_is_less A_ratio A_slope A_next_knot A_even A__law_less Z ⟨C_GREATEST_ENTRY, C_MOST_PERIODS⟩ ⟨(PySem.W.mg_none_of KX G ?ve), (DN.xt_mk (DN.tb_cons (PySem.W.mg_of KX G ?g_BadRooms) DN.tb_nil) ?xt), (.head _), (DN.clt_mk KX G ?t_BadRooms ?u_BadRooms (.head _))⟩; (case a => k_is); (case l => k_is); (case c => k_is); (case k => k_is); (case ve => k_is); (case g_BadRooms => k_is); (case xt => kernel_rfl); (case t_BadRooms => k_is); (case u_BadRooms => kernel_rfl)
