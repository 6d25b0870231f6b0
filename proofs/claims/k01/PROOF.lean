import PyProof.Rows.All
import Wide.All
import OpenK.AllK
import Wide.FinOn
import HandS.ForMost
import HandS.Exc
import HandS.TryOnly
import HandS.TryMany
import HandS.ExcOwn
import HandS.WordsExc
import HandS.Evl
import HandS.Wide
import HandS.IsInst
import HandS.Zip
import HandS.Deep
import HandS.TupAny
import HandS.Gcd
import HandS.CallSlots
import HandS.Style
import HandS.Defaults
import HandS.Head3
import HandS.HeadEnd
import HandS.HeadHook2
import KE.KExcIs
import HandS.HeadWalk
import PySem.Challenge.RW_oneservesall_k01_whole_numbers
section
set_option Elab.async false
set_option linter.all false
set_option maxRecDepth 100000
set_option maxHeartbeats 2000000
namespace TX
open PySem L2 Evl
/-- values as trees; scr: the script, a list that is read and never written -/
inductive D where
  | non | bl (b : Bool) | int (i : Int) | str (s : Str) | tup (ds : List D) | lst (ds : List D) | scr (ns : List Int) | exc (C : Addr) (v : D)
/-- an exception that was caught: its class, its own dict -/
def xo (a : Addr) (cls : Value) (d : Option Addr) : HO := .ext fun h => ∃ oe vs, h.get? a = some oe ∧ oe.cls = cls ∧ oe.dict = d ∧ oe.data = .fields vs
abbrev fV : Str := "value"
mutual
def D.toP : D → PyData
  | .non => .none
  | .bl b => .bool b
  | .int i => .int i
  | .str s => .str s
  | .tup ds => .tuple (D.toPs ds)
  | .lst ds => .list (D.toPs ds)
  | .scr ns => .list (ns.map .int)
  | .exc _ _ => .dict []
def D.toPs : List D → List PyData
  | [] => []
  | d :: ds => d.toP :: D.toPs ds
end
theorem D.toPs_map : ∀ ds : List D, D.toPs ds = ds.map D.toP
  | [] => rfl
  | d :: ds => by show d.toP :: D.toPs ds = d.toP :: ds.map D.toP; rw [D.toPs_map ds]
/-- what a class of errors says of its instances' fields -/
structure GoodC (K : PySem.W.Frag) (C : Addr) : Prop where
  ga : PySem.W.findIn K (.ref C) "__getattribute__" = some (some (.builtin "BaseException.__getattribute__"))
  gg : PySem.W.findIn K (.ref C) "__getattr__" = some none
  exC : PySem.W.subIn K (.ref C) (.type "BaseException") = some true
  hdC : PySem.W.hasDictIn K C = true
  noV : PySem.W.findIn K (.ref C) fV = some none
  clC : (PySem.W.clsIn K C).isSome = true
  caC : PySem.W.findIn K (.ref C) "__class__" = some (some (.builtin "object.__class__"))
  cnC : PySem.W.specialIn K (.builtin "object.__class__") "__get__" = some (some (.builtin "getset_descriptor.__get__"))
  ctC : PySem.W.takesIn K (.builtin "object.__class__") = some true
  cmC : PySem.W.mroIn K C (.type "object") = some true
mutual
/-- a value is a tree -/
inductive Dq (K : PySem.W.Frag) (H : Hp) : V → D → Prop
  | non : Dq K H .non .non
  | bl (b : Bool) : Dq K H (.bl b) (.bl b)
  | int (i : Int) : Dq K H (.int i) (.int i)
  | str (x : Str) : Dq K H (.str x) (.str x)
  | lst {a : Addr} {xs : List V} {ds : List D} : H a = some (.lst xs) → DqAll K H xs ds → Dq K H (.ref a) (.lst ds)
  | tup {a : Addr} {xs : List V} {ds : List D} : SqT K H a xs → DqAll K H xs ds → Dq K H (.ref a) (.tup ds)
  | scr {a : Addr} {ns : List Int} : SqL K H a (ns.map V.int) → Dq K H (.ref a) (.scr ns)
  | exc {a C dx : Addr} {v : V} {d : D} : GoodC K C → H a = some (xo a (.ref C) (some dx)) → H dx = some (.xd [(fV, v)]) → Dq K H v d → Dq K H (.ref a) (.exc C d)
inductive DqAll (K : PySem.W.Frag) (H : Hp) : List V → List D → Prop
  | nil : DqAll K H [] []
  | cons {v : V} {vs : List V} {d : D} {ds : List D} : Dq K H v d → DqAll K H vs ds → DqAll K H (v :: vs) (d :: ds)
end
theorem dpAll_ints {K : PySem.W.Frag} {H : Hp} : ∀ ns : List Int, DpAll K H (ns.map V.int) (ns.map .int)
  | [] => .nil
  | _ :: ns => .cons (.int _) (dpAll_ints ns)
mutual
theorem Dq.dp {K : PySem.W.Frag} {H : Hp} : ∀ {d : D} {v : V}, Dq K H v d → d.toP.canLay0 = true → Dp K H v d.toP
  | .non, _, h, _ => by cases h; exact .non
  | .bl _, _, h, _ => by cases h; exact .bl _
  | .int _, _, h, _ => by cases h; exact .int _
  | .str _, _, h, _ => by cases h; exact .str _
  | .lst ds, _, h, c => by
    cases h with
    | lst hs ha => exact .lst (SqL.of hs) (ha.dp (by simpa [D.toP, PyData.canLay0] using c))
  | .tup ds, _, h, c => by
    cases h with
    | tup hs ha => exact .tup hs (ha.dp (by simpa [D.toP, PyData.canLay0] using c))
  | .scr ns, _, h, _ => by
    cases h with
    | scr hs => exact .lst hs (dpAll_ints ns)
  | .exc _ _, _, _, c => by simp [D.toP, PyData.canLay0] at c
theorem DqAll.dp {K : PySem.W.Frag} {H : Hp} : ∀ {ds : List D} {vs : List V}, DqAll K H vs ds → PyData.canLayAll0 (D.toPs ds) = true → DpAll K H vs (D.toPs ds)
  | [], _, h, _ => by cases h; exact .nil
  | d :: ds, _, h, c => by
    have c' : d.toP.canLay0 = true ∧ PyData.canLayAll0 (D.toPs ds) = true := by
      simpa [D.toPs, PyData.canLayAll0, Bool.and_eq_true] using c
    cases h with
    | cons h1 h2 => exact .cons (h1.dp c'.1) (h2.dp c'.2)
end

/-! ### heaps with addresses put out of sight -/
def msk (S : List Addr) (H : Hp) : Hp := fun a => if a ∈ S then none else H a
theorem msk_in {S : List Addr} {H : Hp} {a : Addr} (h : a ∈ S) : msk S H a = none := by unfold msk; rw [if_pos h]
theorem msk_out {S : List Addr} {H : Hp} {a : Addr} (h : a ∉ S) : msk S H a = H a := by unfold msk; rw [if_neg h]
theorem msk_some {S : List Addr} {H : Hp} {a : Addr} {o : HO} (h : msk S H a = some o) : a ∉ S ∧ H a = some o := by
  by_cases hs : a ∈ S
  · rw [msk_in hs] at h; cases h
  · rw [msk_out hs] at h; exact ⟨hs, h⟩
theorem msk_ex {S : List Addr} {H : Hp} : Ex (msk S H) H := fun a o h => (msk_some h).2
theorem msk_sub {S T : List Addr} {H : Hp} (h : ∀ a ∈ S, a ∈ T) : Ex (msk T H) (msk S H) := fun a o e => by
  obtain ⟨n, e⟩ := msk_some e
  rw [msk_out fun z => n (h a z)]
  exact e
theorem msk_nil {H : Hp} : msk [] H = H := by funext a; exact msk_out (by simp)
theorem msk_mono {S : List Addr} {H H' : Hp} (e : Ex H H') : Ex (msk S H) (msk S H') := fun a o h => by
  obtain ⟨n, h⟩ := msk_some h
  rw [msk_out n]
  exact e a o h
/-- an object out of sight changes -/
theorem msk_upd {S : List Addr} {H : Hp} {p : Addr} {o : HO} (h : p ∈ S) : msk S (upd H p o) = msk S H := by
  funext a
  by_cases hs : a ∈ S
  · rw [msk_in hs, msk_in hs]
  · rw [msk_out hs, msk_out hs, upd_ne fun e => hs (by rw [e]; exact h)]
theorem ex_new {S : List Addr} {H : Hp} {p : Addr} {o : HO} (h : H p = none) : Ex (msk S H) (msk S (upd H p o)) := msk_mono (Ex.new h)
theorem msk_congr {S T : List Addr} {H : Hp} (h : ∀ a, a ∈ S ↔ a ∈ T) : msk S H = msk T H := by
  funext a
  by_cases hs : a ∈ S
  · rw [msk_in hs, msk_in ((h a).mp hs)]
  · rw [msk_out hs, msk_out fun z => hs ((h a).mpr z)]

theorem ex_l {K : PySem.W.Frag} {H H' : Hp} {a : Addr} {xs : List V} (e : Ex H H') (h : SqL K H a xs) : SqL K H' a xs := by
  rcases h with (h | ⟨o, h⟩) | h
  · exact .inl (.inl (e _ _ h))
  · exact .inl (.inr ⟨o, e _ _ h⟩)
  · exact .inr h

/-! ### data that is read stays -/
mutual
theorem dp_mono {K : PySem.W.Frag} {H H' : Hp} (e : Ex H H') : ∀ {d : D} {v : V}, Dq K H v d → Dq K H' v d
  | .non, _, h => by cases h; exact .non
  | .bl _, _, h => by cases h; exact .bl _
  | .int _, _, h => by cases h; exact .int _
  | .str _, _, h => by cases h; exact .str _
  | .lst ds, _, h => by
    cases h with
    | lst hs ha => exact .lst (e _ _ hs) (dpAll_mono e ha)
  | .tup ds, _, h => by
    cases h with
    | tup hs ha => exact .tup (ex_t e hs) (dpAll_mono e ha)
  | .scr ns, _, h => by
    cases h with
    | scr hs => exact .scr (ex_l e hs)
  | .exc _ d, _, h => by
    cases h with
    | exc g h1 h2 h3 => exact .exc g (e _ _ h1) (e _ _ h2) (dp_mono e h3)
theorem dpAll_mono {K : PySem.W.Frag} {H H' : Hp} (e : Ex H H') : ∀ {ds : List D} {vs : List V}, DqAll K H vs ds → DqAll K H' vs ds
  | [], _, h => by cases h; exact .nil
  | d :: ds, _, h => by
    cases h with
    | cons h1 h2 => exact .cons (dp_mono e h1) (dpAll_mono e h2)
end
theorem dpAll_len {K : PySem.W.Frag} {H : Hp} : ∀ {vs : List V} {ds : List D}, DqAll K H vs ds → vs.length = ds.length
  | _, _, .nil => rfl
  | _, _, .cons _ r => by rw [List.length_cons, List.length_cons, dpAll_len r]
theorem dpAll_get {K : PySem.W.Frag} {H : Hp} : ∀ {vs : List V} {ds : List D} {i : Nat} {v : V}, DqAll K H vs ds → vs[i]? = some v → ∃ d, ds[i]? = some d ∧ Dq K H v d
  | _, _, _, _, .nil, e => by simp at e
  | _, _, 0, _, .cons h _, e => by simp at e; subst e; exact ⟨_, rfl, h⟩
  | _, _, i + 1, v, .cons _ r, e => by
    obtain ⟨d, e1, h⟩ := dpAll_get (i := i) r (by simpa using e)
    exact ⟨d, by simpa using e1, h⟩
theorem dpAll_getD {K : PySem.W.Frag} {H : Hp} : ∀ {vs : List V} {ds : List D} {i : Nat} {d : D}, DqAll K H vs ds → ds[i]? = some d → ∃ v, vs[i]? = some v ∧ Dq K H v d
  | _, _, _, _, .nil, e => by simp at e
  | _, _, 0, _, .cons h _, e => by simp at e; subst e; exact ⟨_, rfl, h⟩
  | _, _, i + 1, d, .cons _ r, e => by
    obtain ⟨v, e1, h⟩ := dpAll_getD (i := i) r (by simpa using e)
    exact ⟨v, by simpa using e1, h⟩
theorem dpAll_append {K : PySem.W.Frag} {H : Hp} : ∀ {vs ws : List V} {ds es : List D}, DqAll K H vs ds → DqAll K H ws es → DqAll K H (vs ++ ws) (ds ++ es)
  | _, _, _, _, .nil, s => s
  | _, _, _, _, .cons h r, s => .cons h (dpAll_append r s)
theorem dpAll_set {K : PySem.W.Frag} {H : Hp} {v : V} {d : D} (h : Dq K H v d) : ∀ {vs : List V} {ds : List D} (i : Nat), DqAll K H vs ds → DqAll K H (vs.set i v) (ds.set i d)
  | _, _, _, .nil => .nil
  | _, _, 0, .cons _ r => .cons h r
  | _, _, i + 1, .cons q r => .cons q (dpAll_set h i r)
theorem dpAll_take {K : PySem.W.Frag} {H : Hp} : ∀ {vs : List V} {ds : List D} (n : Nat), DqAll K H vs ds → DqAll K H (vs.take n) (ds.take n)
  | _, _, 0, _ => by simp only [List.take_zero]; exact .nil
  | _, _, _ + 1, .nil => by simp only [List.take_nil]; exact .nil
  | _, _, n + 1, .cons h r => .cons h (dpAll_take n r)
theorem dpAll_drop {K : PySem.W.Frag} {H : Hp} : ∀ {vs : List V} {ds : List D} (n : Nat), DqAll K H vs ds → DqAll K H (vs.drop n) (ds.drop n)
  | _, _, 0, h => h
  | _, _, _ + 1, .nil => by simp only [List.drop_nil]; exact .nil
  | _, _, n + 1, .cons _ r => dpAll_drop n r

/-! ### slots -/
inductive Sl where
  | un | pu (d : D) | ow (ds : List D)
/-- the lists that slots own -/
def ownd : List Sl → L2.St → List Addr
  | .ow _ :: st, some (.ref p) :: σ => p :: ownd st σ
  | _ :: st, _ :: σ => ownd st σ
  | _, _ => []
/-- what is out of sight: lists that are owned, and others -/
abbrev hid (Xs : List Addr) (st : List Sl) (σ : L2.St) : List Addr := ownd st σ ++ Xs
abbrev vis (Xs : List Addr) (st : List Sl) (σ : L2.St) (H : Hp) : Hp := msk (hid Xs st σ) H

structure Rel (K : PySem.W.Frag) (Xs : List Addr) (st : List Sl) (σ : L2.St) (H : Hp) : Prop where
  len : st.length = σ.length
  nd : (hid Xs st σ).Nodup
  pu : ∀ (i : Nat) (d : D), st[i]? = some (.pu d) → ∃ v, σ[i]? = some (some v) ∧ Dq K (vis Xs st σ H) v d
  ow : ∀ (i : Nat) (ds : List D), st[i]? = some (.ow ds) → ∃ p vs, σ[i]? = some (some (.ref p)) ∧ H p = some (.lst vs) ∧ DqAll K (vis Xs st σ H) vs ds
  xs : ∀ x ∈ Xs, H x ≠ none

/-- the slots that own lists owned some before -/
def OwLess (st st' : List Sl) : Prop := ∀ (i : Nat) (ds : List D), st'[i]? = some (.ow ds) → ∃ ds', st[i]? = some (.ow ds')
theorem OwLess.refl (st : List Sl) : OwLess st st := fun i ds h => ⟨ds, h⟩
theorem OwLess.trans {a b c : List Sl} (h : OwLess a b) (k : OwLess b c) : OwLess a c := fun i ds e => by
  obtain ⟨ds', e⟩ := k i ds e
  exact h i ds' e
/-- from one state to a later one; the slots' values stay -/
structure Post (K : PySem.W.Frag) (Xs : List Addr) (st : List Sl) (σ : L2.St) (H : Hp) (st' : List Sl) (H' : Hp) : Prop where
  rel : Rel K Xs st' σ H'
  ex : Ex (vis Xs st σ H) (vis Xs st' σ H')
  xs : ∀ x ∈ Xs, H' x = H x
  dom : ∀ a, H' a = none → H a = none
  ol : OwLess st st'
theorem Post.refl {K : PySem.W.Frag} {Xs : List Addr} {st : List Sl} {σ : L2.St} {H : Hp} (r : Rel K Xs st σ H) : Post K Xs st σ H st H := ⟨r, Ex.refl _, fun _ _ => rfl, fun _ h => h, OwLess.refl _⟩
theorem Post.trans {K : PySem.W.Frag} {Xs : List Addr} {st st1 st2 : List Sl} {σ : L2.St} {H H1 H2 : Hp} (a : Post K Xs st σ H st1 H1) (b : Post K Xs st1 σ H1 st2 H2) : Post K Xs st σ H st2 H2 :=
  ⟨b.rel, a.ex.trans b.ex, fun x h => (b.xs x h).trans (a.xs x h), fun x h => a.dom x (b.dom x h), a.ol.trans b.ol⟩

/-- an owned list's place -/
theorem ownd_mem : ∀ {st : List Sl} {σ : L2.St} {i : Nat} {ds : List D} {p : Addr}, st[i]? = some (.ow ds) → σ[i]? = some (some (.ref p)) → p ∈ ownd st σ
  | s :: st, v :: σ, 0, ds, p, h1, h2 => by
    simp at h1 h2
    subst h1; subst h2
    show p ∈ p :: ownd st σ
    exact List.mem_cons_self
  | s :: st, v :: σ, i + 1, ds, p, h1, h2 => by
    have ih := ownd_mem (st := st) (σ := σ) (i := i) (ds := ds) (p := p) (by simpa using h1) (by simpa using h2)
    unfold ownd
    split
    · next e1 e2 => cases e1; cases e2; exact List.mem_cons_of_mem _ ih
    · next e1 e2 => cases e1; cases e2; exact ih
    · next e => exact absurd rfl (e _ _ _ _ rfl)
  | [], _, _, _, _, h, _ => by simp at h
  | _ :: _, [], _, _, _, _, h => by simp at h
theorem ownd_of : ∀ {st : List Sl} {σ : L2.St} {p : Addr}, p ∈ ownd st σ → ∃ (i : Nat) (ds : List D), st[i]? = some (.ow ds) ∧ σ[i]? = some (some (.ref p))
  | s :: st, v :: σ, p, h => by
    unfold ownd at h
    split at h
    · next e1 e2 =>
      cases e1; cases e2
      rcases List.mem_cons.mp h with e | h
      · subst e; exact ⟨0, _, rfl, rfl⟩
      · obtain ⟨i, ds, h1, h2⟩ := ownd_of h
        exact ⟨i + 1, ds, by simpa using h1, by simpa using h2⟩
    · next e1 e2 =>
      cases e1; cases e2
      obtain ⟨i, ds, h1, h2⟩ := ownd_of h
      exact ⟨i + 1, ds, by simpa using h1, by simpa using h2⟩
    · next e => exact absurd rfl (e _ _ _ _ rfl)
  | [], σ, p, h => by unfold ownd at h; cases h
  | _ :: _, [], p, h => by
    unfold ownd at h
    split at h
    · next e => cases e
    · next e => cases e
    · cases h
/-- a slot that owns nothing gives nothing -/
theorem ownd_set_ne {s' : Sl} (hs' : ∀ ds, s' ≠ .ow ds) : ∀ {st : List Sl} {σ : L2.St} {i : Nat} {v : Option V}, (∀ ds, st[i]? ≠ some (.ow ds)) → ownd (st.set i s') (σ.set i v) = ownd st σ
  | [], σ, i, v, _ => by rw [List.set_nil]; unfold ownd; rfl
  | s :: st, [], i, v, _ => by
    rw [List.set_nil]
    have h : ∀ l : List Sl, ownd l [] = [] := fun l => by unfold ownd; split <;> simp_all
    rw [h, h]
  | s :: st, x :: σ, 0, v, h => by
    show ownd (s' :: st) (v :: σ) = ownd (s :: st) (x :: σ)
    have e1 : ownd (s' :: st) (v :: σ) = ownd st σ := by
      cases s' with
      | ow ds => exact absurd rfl (hs' ds)
      | un => rfl
      | pu d => rfl
    have e2 : ownd (s :: st) (x :: σ) = ownd st σ := by
      cases s with
      | ow ds => exact absurd rfl (h ds)
      | un => rfl
      | pu d => rfl
    rw [e1, e2]
  | s :: st, x :: σ, i + 1, v, h => by
    show ownd (s :: st.set i s') (x :: σ.set i v) = ownd (s :: st) (x :: σ)
    have ih := ownd_set_ne hs' (st := st) (σ := σ) (i := i) (v := v) (fun ds => by simpa using h ds)
    cases s with
    | un => exact ih
    | pu d => exact ih
    | ow ds =>
      cases x with
      | none => exact ih
      | some w =>
        cases w with
        | ref p => exact congrArg (p :: ·) ih
        | _ => exact ih
/-- an owning slot with other contents -/
theorem ownd_set_ow : ∀ {st : List Sl} {σ : L2.St} {i : Nat} {ds ds' : List D}, st[i]? = some (.ow ds) → ownd (st.set i (.ow ds')) σ = ownd st σ
  | s :: st, [], i, ds, ds', h => by
    have h : ∀ l : List Sl, ownd l [] = [] := fun l => by unfold ownd; split <;> simp_all
    rw [h, h]
  | s :: st, x :: σ, 0, ds, ds', h => by
    simp at h
    subst h
    show ownd (.ow ds' :: st) (x :: σ) = ownd (.ow ds :: st) (x :: σ)
    cases x with
    | none => rfl
    | some w => cases w <;> rfl
  | s :: st, x :: σ, i + 1, ds, ds', h => by
    have ih := ownd_set_ow (st := st) (σ := σ) (i := i) (ds := ds) (ds' := ds') (by simpa using h)
    show ownd (s :: st.set i (.ow ds')) (x :: σ) = ownd (s :: st) (x :: σ)
    cases s with
    | un => exact ih
    | pu d => exact ih
    | ow ds =>
      cases x with
      | none => exact ih
      | some w =>
        cases w with
        | ref p => exact congrArg (p :: ·) ih
        | _ => exact ih
  | [], _, _, _, _, h => by simp at h
end TX

end

section
set_option Elab.async false
set_option linter.all false
set_option maxRecDepth 100000
set_option maxHeartbeats 2000000
namespace TX
open PySem L2 Evl

/-! ### outcomes -/
inductive O (α : Type) where
  | ok (a : α) (st : List Sl) | ex (c : Nat) (d : D) (st : List Sl) | no
def O.bind {α β : Type} (o : O α) (f : α → List Sl → O β) : O β := match o with
  | .ok a st => f a st
  | .ex c d st => .ex c d st
  | .no => .no
/-- a value, and whether its root is a new list that nothing else holds -/
abbrev R1 := D × Bool
abbrev EvE := List Sl → O R1
abbrev EvA := List Sl → O (List D)
abbrev EvT := List Sl → O Bool
def Rdo {α : Type} (o : O α) (k : α → List Sl → Prop) (x : Nat → D → List Sl → Prop) : Prop := match o with
  | .ok a st => k a st
  | .ex c d st => x c d st
  | .no => False
theorem Rdo.mono {α : Type} {o : O α} {k k' : α → List Sl → Prop} {x x' : Nat → D → List Sl → Prop} (h : Rdo o k x) (hk : ∀ a s, k a s → k' a s) (hx : ∀ c d s, x c d s → x' c d s) : Rdo o k' x' := by
  cases o with
  | ok a s => exact hk a s h
  | ex c d s => exact hx c d s h
  | no => exact h
theorem rdo_bind {α β : Type} {o : O α} {f : α → List Sl → O β} {k : β → List Sl → Prop} {x : Nat → D → List Sl → Prop} (h : Rdo (o.bind f) k x) : Rdo o (fun a s => Rdo (f a s) k x) x := by
  cases o <;> exact h

/-- what is wanted of an exception; the classes by their numbers -/
structure Wi where
  W : WX
  cl : Nat → Addr
def exW (K : PySem.W.Frag) (w : Wi) (Xs : List Addr) (st : List Sl) (σ : L2.St) (H : Hp) : Nat → D → List Sl → Prop := fun c d st' =>
  ∀ (dx : Addr) (v : V) (H' : Hp), Post K Xs st σ H st' H' → vis Xs st' σ H' dx = some (.xd [(fV, v)]) → Dq K (vis Xs st' σ H') v d → w.W (.ref (w.cl c)) (some dx) σ H'
theorem exW_on {K : PySem.W.Frag} {w : Wi} {Xs : List Addr} {st st1 : List Sl} {σ : L2.St} {H H1 : Hp} (p : Post K Xs st σ H st1 H1) {c : Nat} {d : D} {s : List Sl} (h : exW K w Xs st σ H c d s) : exW K w Xs st1 σ H1 c d s :=
  fun dx v H' q e r => h dx v H' (p.trans q) e r
/-- a value that came -/
structure Val (K : PySem.W.Frag) (Xs : List Addr) (σ : L2.St) (H : Hp) (st' : List Sl) (H' : Hp) (v : V) (r : R1) : Prop where
  dp : Dq K (vis Xs st' σ H') v r.1
  fr : r.2 = true → ∃ p vs ds, v = .ref p ∧ r.1 = .lst ds ∧ H p = none ∧ H' p = some (.lst vs) ∧ DqAll K (vis (p :: Xs) st' σ H') vs ds ∧ Rel K (p :: Xs) st' σ H'
theorem Val.old {K : PySem.W.Frag} {Xs : List Addr} {σ : L2.St} {H : Hp} {st' : List Sl} {H' : Hp} {v : V} {d : D} (h : Dq K (vis Xs st' σ H') v d) : Val K Xs σ H st' H' v (d, false) := ⟨h, fun e => by cases e⟩
theorem Val.of {K : PySem.W.Frag} {Xs : List Addr} {st st1 : List Sl} {σ : L2.St} {H H1 : Hp} (p : Post K Xs st σ H st1 H1) {st' : List Sl} {H' : Hp} {v : V} {r : R1} (h : Val K Xs σ H1 st' H' v r) : Val K Xs σ H st' H' v r :=
  ⟨h.dp, fun e => by
    obtain ⟨q, vs, ds, h1, h2, h3, h4⟩ := h.fr e
    exact ⟨q, vs, ds, h1, h2, p.dom q h3, h4⟩⟩

def tE (K : PySem.W.Frag) (w : Wi) (ev : EvE) : TE := fun σ H Q => ∃ Xs st, Rel K Xs st σ H ∧ Rdo (ev st) (fun r st' => ∀ v H', Post K Xs st σ H st' H' → Val K Xs σ H st' H' v r → Q v H') (exW K w Xs st σ H)
def tA (K : PySem.W.Frag) (w : Wi) (ev : EvA) : TA := fun σ H Q => ∃ Xs st, Rel K Xs st σ H ∧ Rdo (ev st) (fun ds st' => ∀ vs H', Post K Xs st σ H st' H' → DqAll K (vis Xs st' σ H') vs ds → Q vs H') (exW K w Xs st σ H)
def tT (K : PySem.W.Frag) (w : Wi) (ev : EvT) : TT := fun σ H Q => ∃ Xs st, Rel K Xs st σ H ∧ Rdo (ev st) (fun b st' => ∀ H', Post K Xs st σ H st' H' → Q b H') (exW K w Xs st σ H)
theorem tE_mono {K : PySem.W.Frag} {w : Wi} {ev : EvE} {σ : L2.St} {H : Hp} {Q Q' : VK} (h : tE K w ev σ H Q) (hq : ∀ v H', Q v H' → Q' v H') : tE K w ev σ H Q' := by
  obtain ⟨Xs, st, r, h⟩ := h
  exact ⟨Xs, st, r, h.mono (fun a s k v H' p q => hq v H' (k v H' p q)) fun _ _ _ x => x⟩

section
variable {K : PySem.W.Frag} {w : Wi} {Xs : List Addr} {st : List Sl} {σ : L2.St} {H : Hp}
/-- an expression, then the rest -/
theorem tE_seq {β : Type} {ev : EvE} {f : R1 → List Sl → O β} {k : β → List Sl → Prop} {Q : VK} (rel : Rel K Xs st σ H) (h : Rdo ((ev st).bind f) k (exW K w Xs st σ H))
    (hq : ∀ v H1 r st1, Post K Xs st σ H st1 H1 → Val K Xs σ H st1 H1 v r → Rdo (f r st1) k (exW K w Xs st1 σ H1) → Q v H1) : tE K w ev σ H Q :=
  ⟨Xs, st, rel, (rdo_bind h).mono (fun r st1 g v H1 p q => hq v H1 r st1 p q (g.mono (fun _ _ x => x) fun _ _ _ x => exW_on p x)) fun _ _ _ x => x⟩
theorem tA_seq {β : Type} {ev : EvA} {f : List D → List Sl → O β} {k : β → List Sl → Prop} {Q : List V → Hp → Prop} (rel : Rel K Xs st σ H) (h : Rdo ((ev st).bind f) k (exW K w Xs st σ H))
    (hq : ∀ vs H1 ds st1, Post K Xs st σ H st1 H1 → DqAll K (vis Xs st1 σ H1) vs ds → Rdo (f ds st1) k (exW K w Xs st1 σ H1) → Q vs H1) : tA K w ev σ H Q :=
  ⟨Xs, st, rel, (rdo_bind h).mono (fun r st1 g v H1 p q => hq v H1 r st1 p q (g.mono (fun _ _ x => x) fun _ _ _ x => exW_on p x)) fun _ _ _ x => x⟩
theorem tT_seq {β : Type} {ev : EvT} {f : Bool → List Sl → O β} {k : β → List Sl → Prop} {Q : Bool → Hp → Prop} (rel : Rel K Xs st σ H) (h : Rdo ((ev st).bind f) k (exW K w Xs st σ H))
    (hq : ∀ b H1 st1, Post K Xs st σ H st1 H1 → Rdo (f b st1) k (exW K w Xs st1 σ H1) → Q b H1) : tT K w ev σ H Q :=
  ⟨Xs, st, rel, (rdo_bind h).mono (fun r st1 g H1 p => hq r H1 st1 p (g.mono (fun _ _ x => x) fun _ _ _ x => exW_on p x)) fun _ _ _ x => x⟩
end

/-! ### the judgements follow a weaker reading -/
theorem PE.of {X : Cx} {e : Expr} {t t' : TE} (h : PE X e t) (w : ∀ σ H Q, t' σ H Q → t σ H Q) : PE X e t' := ⟨fun pins s σ H Q I q => h.run pins s σ H Q I (w σ H Q q)⟩
theorem PT.of {X : Cx} {e : Expr} {t t' : TT} (h : PT X e t) (w : ∀ σ H Q, t' σ H Q → t σ H Q) : PT X e t' := ⟨fun pins s σ H Q I q => h.run pins s σ H Q I (w σ H Q q)⟩
theorem PW.of {X : Cx} {e : Expr} {t t' : TT} (h : PW X e t) (w : ∀ σ H Q, t' σ H Q → t σ H Q) : PW X e t' := ⟨fun wh pins s σ H Q I q => h.run wh pins s σ H Q I (w σ H Q q)⟩
theorem PA.of {X : Cx} {es : List Expr} {t t' : TA} (h : PA X es t) (w : ∀ σ H Q, t' σ H Q → t σ H Q) : PA X es t' := ⟨fun pos pins s σ H Q I q => h.run pos pins s σ H Q I (w σ H Q q)⟩
theorem PS.of {X : Cx} {e : Stmt} {t t' : TS} (h : PS X e t) (w : ∀ Dn σ H, t' Dn σ H → t Dn σ H) : PS X e t' := ⟨fun pins s σ H Dn I q => h.run pins s σ H Dn I (w Dn σ H q)⟩
theorem PSs.of {X : Cx} {e : List Stmt} {t t' : TS} (h : PSs X e t) (w : ∀ Dn σ H, t' Dn σ H → t Dn σ H) : PSs X e t' := ⟨fun pins s σ H Dn I q => h.run pins s σ H Dn I (w Dn σ H q)⟩

/-! ### the slots once more -/
theorem ownd_nil_r (l : List Sl) : ownd l [] = [] := by unfold ownd; split <;> simp_all
/-- a list is let go -/
theorem ownd_free : ∀ {st : List Sl} {σ : L2.St} {i : Nat} {ds : List D} {p : Addr} {d : D}, st[i]? = some (.ow ds) → σ[i]? = some (some (.ref p)) → (ownd st σ).Perm (p :: ownd (st.set i (.pu d)) σ)
  | s :: st, x :: σ, 0, ds, p, d, h1, h2 => by
    simp at h1 h2
    subst h1; subst h2
    exact List.Perm.refl _
  | s :: st, x :: σ, i + 1, ds, p, d, h1, h2 => by
    have ih := ownd_free (st := st) (σ := σ) (i := i) (ds := ds) (p := p) (d := d) (by simpa using h1) (by simpa using h2)
    show (ownd (s :: st) (x :: σ)).Perm (p :: ownd (s :: st.set i (.pu d)) (x :: σ))
    cases s with
    | un => exact ih
    | pu d => exact ih
    | ow ds =>
      cases x with
      | none => exact ih
      | some w =>
        cases w with
        | ref q => exact (List.Perm.cons q ih).trans (List.Perm.swap p q _)
        | _ => exact ih
  | [], _, _, _, _, _, h, _ => by simp at h
  | _ :: _, [], _, _, _, _, _, h => by simp at h
section
variable {K : PySem.W.Frag} {Xs : List Addr} {st : List Sl} {σ : L2.St} {H : Hp}
theorem hid_perm {st st' : List Sl} {l : List Addr} (h : (ownd st σ).Perm (l ++ ownd st' σ)) : (hid Xs st σ).Perm (l ++ hid Xs st' σ) := by
  show (ownd st σ ++ Xs).Perm (l ++ (ownd st' σ ++ Xs))
  rw [← List.append_assoc]
  exact h.append_right Xs
/-- an owned list is read as a value: from now on it is never written -/
theorem rel_free {i : Nat} {ds : List D} {p : Addr} (r : Rel K Xs st σ H) (h1 : st[i]? = some (.ow ds)) (h2 : σ[i]? = some (some (.ref p))) :
    Post K Xs st σ H (st.set i (.pu (.lst ds))) H ∧ Dq K (vis Xs (st.set i (.pu (.lst ds))) σ H) (.ref p) (.lst ds) := by
  have hp : (hid Xs st σ).Perm (p :: hid Xs (st.set i (.pu (.lst ds))) σ) := hid_perm (l := [p]) (ownd_free h1 h2)
  have nd : (p :: hid Xs (st.set i (.pu (.lst ds))) σ).Nodup := hp.nodup_iff.mp r.nd
  have ex : Ex (vis Xs st σ H) (vis Xs (st.set i (.pu (.lst ds))) σ H) := msk_sub fun a ha => hp.mem_iff.mpr (List.mem_cons_of_mem _ ha)
  obtain ⟨p', vs, e1, e2, e3⟩ := r.ow i ds h1
  have ep : p' = p := by rw [h2] at e1; cases e1; rfl
  subst ep
  have hn : p' ∉ hid Xs (st.set i (.pu (.lst ds))) σ := (List.nodup_cons.mp nd).1
  have hd : Dq K (vis Xs (st.set i (.pu (.lst ds))) σ H) (.ref p') (.lst ds) := .lst (by show msk _ H p' = _; rw [msk_out hn]; exact e2) (dpAll_mono ex e3)
  have hlt : i < st.length := (List.getElem?_eq_some_iff.mp h1).1
  refine ⟨⟨⟨by rw [List.length_set]; exact r.len, (List.nodup_cons.mp nd).2, fun j d hj => ?_, fun j es hj => ?_, r.xs⟩, ex, fun _ _ => rfl, fun _ h => h, fun j es hj => ?_⟩, hd⟩
  · by_cases e : i = j
    · subst e
      rw [List.getElem?_set_self hlt] at hj
      cases hj
      exact ⟨_, h2, hd⟩
    · rw [List.getElem?_set_ne e] at hj
      obtain ⟨v, q1, q2⟩ := r.pu j d hj
      exact ⟨v, q1, dp_mono ex q2⟩
  · by_cases e : i = j
    · subst e
      rw [List.getElem?_set_self hlt] at hj
      cases hj
    · rw [List.getElem?_set_ne e] at hj
      obtain ⟨q, vs, q1, q2, q3⟩ := r.ow j es hj
      exact ⟨q, vs, q1, q2, dpAll_mono ex q3⟩
  · by_cases e : i = j
    · subst e
      rw [List.getElem?_set_self hlt] at hj
      cases hj
    · rw [List.getElem?_set_ne e] at hj
      exact ⟨es, hj⟩
/-- a new object -/
theorem rel_new {p : Addr} {o : HO} (r : Rel K Xs st σ H) (hp : H p = none) : Post K Xs st σ H st (upd H p o) := by
  have ne : ∀ a, H a ≠ none → a ≠ p := fun a h e => h (by rw [e]; exact hp)
  have ex : Ex (vis Xs st σ H) (vis Xs st σ (upd H p o)) := ex_new hp
  refine ⟨⟨r.len, r.nd, fun i d h => ?_, fun i ds h => ?_, fun x hx => ?_⟩, ex, fun x hx => upd_ne (ne x (r.xs x hx)), fun a h => ?_, OwLess.refl _⟩
  · obtain ⟨v, q1, q2⟩ := r.pu i d h
    exact ⟨v, q1, dp_mono ex q2⟩
  · obtain ⟨q, vs, q1, q2, q3⟩ := r.ow i ds h
    exact ⟨q, vs, q1, by rw [upd_ne (ne q (by rw [q2]; simp))]; exact q2, dpAll_mono ex q3⟩
  · rw [upd_ne (ne x (r.xs x hx))]
    exact r.xs x hx
  · by_cases e : a = p
    · rw [e]; exact hp
    · rw [upd_ne e] at h; exact h
/-- what is out of sight or free is no value -/
theorem rel_ownd {p : Addr} (r : Rel K Xs st σ H) (h : p ∈ ownd st σ) : ∃ vs, H p = some (.lst vs) := by
  obtain ⟨i, ds, h1, h2⟩ := ownd_of h
  obtain ⟨q, vs, e1, e2, _⟩ := r.ow i ds h1
  rw [h2] at e1
  cases e1
  exact ⟨vs, e2⟩
theorem rel_hid {p : Addr} (r : Rel K Xs st σ H) (h : H p = none) : p ∉ hid Xs st σ := fun hm => by
  rcases List.mem_append.mp hm with hm | hm
  · obtain ⟨vs, e⟩ := rel_ownd r hm
    rw [h] at e; cases e
  · exact r.xs p hm h
/-- a new list's value -/
theorem val_newL {p : Addr} {vs : List V} {ds : List D} (r : Rel K Xs st σ H) (hp : H p = none) (h : DqAll K (vis Xs st σ H) vs ds) : Val K Xs σ H st (upd H p (.lst vs)) (.ref p) (.lst ds, true) := by
  have hn := rel_hid r hp
  have P := rel_new (o := .lst vs) r hp
  have ex2 : Ex (vis Xs st σ H) (vis (p :: Xs) st σ (upd H p (.lst vs))) := fun a o e => by
    obtain ⟨n, e⟩ := msk_some e
    have ap : a ≠ p := fun z => by rw [z, hp] at e; cases e
    show msk (ownd st σ ++ p :: Xs) _ a = _
    rw [msk_out, upd_ne ap, e]
    intro hm
    rcases List.mem_append.mp hm with hm | hm
    · exact n (List.mem_append_left _ hm)
    · rcases List.mem_cons.mp hm with hm | hm
      · exact ap hm
      · exact n (List.mem_append_right _ hm)
  refine ⟨.lst (by show msk _ _ p = _; rw [msk_out hn, upd_same]) (dpAll_mono P.ex h), fun _ => ⟨p, vs, ds, rfl, rfl, hp, upd_same, dpAll_mono ex2 h, ?_⟩⟩
  refine ⟨r.len, ?_, fun i d e => ?_, fun i es e => ?_, fun x hx => ?_⟩
  · show (ownd st σ ++ p :: Xs).Nodup
    have e : (ownd st σ ++ p :: Xs).Perm (p :: (ownd st σ ++ Xs)) := List.perm_middle
    exact e.nodup_iff.mpr (List.nodup_cons.mpr ⟨hn, r.nd⟩)
  · obtain ⟨v, q1, q2⟩ := r.pu i d e
    exact ⟨v, q1, dp_mono ex2 q2⟩
  · obtain ⟨q, us, q1, q2, q3⟩ := r.ow i es e
    exact ⟨q, us, q1, by rw [upd_ne fun z => by rw [z, hp] at q2; cases q2]; exact q2, dpAll_mono ex2 q3⟩
  · rcases List.mem_cons.mp hx with e | hx
    · rw [e, upd_same]; simp
    · rw [upd_ne fun z => r.xs x hx (by rw [z]; exact hp)]
      exact r.xs x hx
theorem val_newT {p : Addr} {vs : List V} {ds : List D} (r : Rel K Xs st σ H) (hp : H p = none) (h : DqAll K (vis Xs st σ H) vs ds) : Val K Xs σ H st (upd H p (.tup vs)) (.ref p) (.tup ds, false) := by
  have hn := rel_hid r hp
  have P := rel_new (o := .tup vs) r hp
  exact .old (.tup (.inl (.inl (by show msk _ _ p = _; rw [msk_out hn, upd_same]))) (dpAll_mono P.ex h))
end

/-! ### names and constants -/
def eVar (i : Nat) : EvE := fun st => match st[i]? with
  | some (.pu d) => .ok (d, false) st
  | some (.ow ds) => .ok (.lst ds, false) (st.set i (.pu (.lst ds)))
  | _ => .no
def eC (d : D) : EvE := fun st => .ok (d, false) st
section
variable {X : Cx} {w : Wi} {pos : Pos}
theorem x_var (i : Nat) {x : Str} (hN : X.N[i]? = some x := by rfl) (hv : Vis X.env.scope x := by first | exact Or.inl rfl | exact Or.inr (Or.inl rfl) | exact Or.inr (Or.inr rfl)) (hd : (x == ("__debug__" : Str)) = false := by decide)
    (hcd : (x == ("__classdict__" : Str)) = false := by decide) : PE X (.Name x pos) (tE X.K w (eVar i)) := by
  refine PE.of (pe_var hN hv hd hcd) fun σ H Q h => ?_
  obtain ⟨Xs, st, r, h⟩ := h
  unfold eVar at h
  split at h
  · next d e =>
    obtain ⟨v, e1, e2⟩ := r.pu i d e
    exact ⟨v, e1, h v H (Post.refl r) (.old e2)⟩
  · next ds e =>
    obtain ⟨p, vs, e1, e2, e3⟩ := r.ow i ds e
    obtain ⟨q1, q2⟩ := rel_free r e e1
    exact ⟨.ref p, e1, h _ H q1 (.old q2)⟩
  · exact h.elim
theorem x_const {e : Expr} {v : V} {d : D} (h : PE X e (tC v)) (hd : ∀ H, Dq X.K H v d) : PE X e (tE X.K w (eC d)) := by
  refine PE.of h fun σ H Q h => ?_
  obtain ⟨Xs, st, r, h⟩ := h
  exact h v H (Post.refl r) (.old (hd _))
theorem x_int {i : Int} {j : Nat} : PE X (.Constant (.int i) j pos) (tE X.K w (eC (.int i))) := x_const pe_int fun _ => .int i
theorem x_bl {b : Bool} {j : Nat} : PE X (.Constant (.bool b) j pos) (tE X.K w (eC (.bl b))) := x_const pe_bl fun _ => .bl b
theorem x_non {j : Nat} : PE X (.Constant .none j pos) (tE X.K w (eC .non)) := x_const pe_non fun _ => .non
theorem x_str {x : Str} {j : Nat} : PE X (.Constant (.str x) j pos) (tE X.K w (eC (.str x))) := x_const pe_str fun _ => .str x
theorem x_glob {x : Str} {v : V} {u : Value} {d : D} (hm : X.mg x = some u) (r : RelV v u) (hd : ∀ H, Dq X.K H v d) (hg : Gl X x := by rfl) (hdb : (x == ("__debug__" : Str)) = false := by decide) : PE X (.Name x pos) (tE X.K w (eC d)) := x_const (pe_glob hg hm r hdb) hd
end

/-! ### operators -/
def eBin (f : D → D → Option R1) (a b : EvE) : EvE := fun st => (a st).bind fun x st1 => (b st1).bind fun y st2 => match f x.1 y.1 with
  | some z => .ok z st2
  | none => .no
def eUn (f : D → Option R1) (a : EvE) : EvE := fun st => (a st).bind fun x st1 => match f x.1 with
  | some z => .ok z st1
  | none => .no
/-- an operator's rule by trees -/
def OpS (K : PySem.W.Frag) (r : R2) (f : D → D → Option R1) : Prop := ∀ (Xs : List Addr) (st : List Sl) (σ : L2.St) (H : Hp) (x y : V) (dx dy : D) (z : R1) (Q : VK), Rel K Xs st σ H → Dq K (vis Xs st σ H) x dx → Dq K (vis Xs st σ H) y dy → f dx dy = some z →
  (∀ v H', Post K Xs st σ H st H' → Val K Xs σ H st H' v z → Q v H') → r x y H Q
def UnS (K : PySem.W.Frag) (r : V → Hp → VK → Prop) (f : D → Option R1) : Prop := ∀ (Xs : List Addr) (st : List Sl) (σ : L2.St) (H : Hp) (x : V) (dx : D) (z : R1) (Q : VK), Rel K Xs st σ H → Dq K (vis Xs st σ H) x dx → f dx = some z →
  (∀ v H', Post K Xs st σ H st H' → Val K Xs σ H st H' v z → Q v H') → r x H Q
theorem tOp_of {K : PySem.W.Frag} {w : Wi} {r : R2} {f : D → D → Option R1} {ea eb : EvE} (ho : OpS K r f) {σ : L2.St} {H : Hp} {Q : VK} (h : tE K w (eBin f ea eb) σ H Q) : tOp r (tE K w ea) (tE K w eb) σ H Q := by
  obtain ⟨Xs, st, rel, h⟩ := h
  refine tE_seq rel h fun x H1 rx st1 p1 v1 h1 => ?_
  refine tE_seq p1.rel h1 fun y H2 ry st2 p2 v2 h2 => ?_
  split at h2
  · next z ez =>
    refine ho Xs st2 σ H2 x y rx.1 ry.1 z Q p2.rel (dp_mono p2.ex v1.dp) v2.dp ez fun v H' p3 v3 => ?_
    exact h2 v H' ((p1.trans p2).trans p3) (.of (p1.trans p2) v3)
  · exact h2.elim
theorem tUn_of {K : PySem.W.Frag} {w : Wi} {r : V → Hp → VK → Prop} {f : D → Option R1} {ea : EvE} (ho : UnS K r f) {σ : L2.St} {H : Hp} {Q : VK} (h : tE K w (eUn f ea) σ H Q) : tUn r (tE K w ea) σ H Q := by
  obtain ⟨Xs, st, rel, h⟩ := h
  refine tE_seq rel h fun x H1 rx st1 p1 v1 h1 => ?_
  split at h1
  · next z ez => exact ho Xs st1 σ H1 x rx.1 z Q p1.rel v1.dp ez fun v H' p3 v3 => h1 v H' (p1.trans p3) (.of p1 v3)
  · exact h1.elim
section
variable {X : Cx} {w : Wi} {pos : Pos} {a b : Expr} {ea eb : EvE} {r : R2} {f : D → D → Option R1}
theorem x_bin {op : Operator} (ho : OpR X (binaryOp op) r) (hs : OpS X.K r f) (ha : PE X a (tE X.K w ea)) (hb : PE X b (tE X.K w eb)) : PE X (.BinOp a op b pos) (tE X.K w (eBin f ea eb)) :=
  PE.of (pe_op ho ha hb) fun σ H Q h => tOp_of hs h
theorem x_cmp {op : CmpOp} (ho : OpR X (compareOp op) r) (hs : OpS X.K r f) (ha : PE X a (tE X.K w ea)) (hb : PE X b (tE X.K w eb)) (hm : behindInMarks op b = false := by first | exact nomark _ | rfl) : PE X (.Compare a [op] [b] pos) (tE X.K w (eBin f ea eb)) :=
  PE.of (pe_cmpR ho ha hb hm) fun σ H Q h => tOp_of hs h
theorem x_un {op : UnaryOp} {r : V → Hp → VK → Prop} {f : D → Option R1} (ho : UnR X (unaryOp op) r) (hs : UnS X.K r f) (ha : PE X a (tE X.K w ea)) : PE X (.UnaryOp op a pos) (tE X.K w (eUn f ea)) :=
  PE.of (pe_un ho ha) fun σ H Q h => tUn_of hs h
theorem x_ix {r : R2} (hr : IxR X r) (hs : OpS X.K r f) (ha : PE X a (tE X.K w ea)) (hb : PE X b (tE X.K w eb)) (hp : PlainIx b := by exact fun _ _ => rfl) : PE X (.Subscript a b pos) (tE X.K w (eBin f ea eb)) :=
  PE.of (pe_ix hr ha hb hp) fun σ H Q h => tOp_of hs h
end
end TX

end

section
set_option Elab.async false
set_option linter.all false
set_option maxRecDepth 100000
set_option maxHeartbeats 2000000
namespace TX
open PySem L2 Evl PyProof.Rows

theorem b_true (b : Bool) : (b == true) = b := by cases b <;> rfl
theorem b_false (b : Bool) : (b == false) = !b := by cases b <;> rfl
/-! ### operators on trees -/
section
variable {K : PySem.W.Frag}
theorem ops_or {r r' : R2} {f g : D → D → Option R1} (h1 : OpS K r f) (h2 : OpS K r' g) : OpS K (fun x y H Q => r x y H Q ∨ r' x y H Q) (fun x y => match f x y with | some z => some z | none => g x y) := by
  intro Xs st σ H x y dx dy z Q rel hx hy hz hq
  revert hz
  show (match f dx dy with | some z => some z | none => g dx dy) = some z → _
  cases e : f dx dy with
  | some z' =>
    intro hz
    have hz' : some z' = some z := hz
    cases hz'
    exact Or.inl (h1 Xs st σ H x y dx dy z Q rel hx hy e hq)
  | none => exact fun hz => Or.inr (h2 Xs st σ H x y dx dy z Q rel hx hy hz hq)
/-- whole numbers -/
def fI (c : Int → Int → Bool) (g : Int → Int → D) : D → D → Option R1 := fun x y => match x, y with
  | .int i, .int j => if c i j then some (g i j, false) else none
  | _, _ => none
theorem ops_i {C : Int → Int → Prop} {c : Int → Int → Bool} {g : Int → Int → D} {gv : Int → Int → V} (hc : ∀ i j, c i j = true → C i j) (hg : ∀ H i j, Dq K H (gv i j) (g i j)) : OpS K (rI C gv) (fI c g) := by
  intro Xs st σ H x y dx dy z Q rel hx hy hz hq
  unfold fI at hz
  split at hz
  · next i j =>
    split at hz
    · next h =>
      cases hz
      cases hx
      cases hy
      exact ⟨i, j, rfl, rfl, hc i j h, hq _ H (Post.refl rel) (.old (hg _ i j))⟩
    · cases hz
  · cases hz
def fI0 (g : Int → Int → D) : D → D → Option R1 := fun x y => match x, y with
  | .int i, .int j => some (g i j, false)
  | _, _ => none
theorem ops_i0 {g : Int → Int → D} {gv : Int → Int → V} (hg : ∀ H i j, Dq K H (gv i j) (g i j)) : OpS K (rI0 gv) (fI0 g) := by
  intro Xs st σ H x y dx dy z Q rel hx hy hz hq
  unfold fI0 at hz
  split at hz
  · next i j =>
    cases hz
    cases hx
    cases hy
    exact ⟨i, j, rfl, rfl, hq _ H (Post.refl rel) (.old (hg _ i j))⟩
  · cases hz
/-- texts -/
def fS (g : Str → Str → D) : D → D → Option R1 := fun x y => match x, y with
  | .str i, .str j => some (g i j, false)
  | _, _ => none
theorem ops_s {g : Str → Str → D} {gv : Str → Str → V} (hg : ∀ H i j, Dq K H (gv i j) (g i j)) : OpS K (fun x y H Q => ∃ i j, x = .str i ∧ y = .str j ∧ Q (gv i j) H) (fS g) := by
  intro Xs st σ H x y dx dy z Q rel hx hy hz hq
  unfold fS at hz
  split at hz
  · next i j =>
    cases hz
    cases hx
    cases hy
    exact ⟨i, j, rfl, rfl, hq _ H (Post.refl rel) (.old (hg _ i j))⟩
  · cases hz
/-- two lists, a new one -/
def fCat : D → D → Option R1 := fun x y => match x, y with
  | .lst a, .lst b => if a.length + b.length ≤ 100000 then some (.lst (a ++ b), true) else none
  | _, _ => none
theorem ops_cat : OpS K rCat fCat := by
  intro Xs st σ H x y dx dy z Q rel hx hy hz hq
  unfold fCat at hz
  split at hz
  · next a b =>
    split at hz
    · next h =>
      cases hz
      cases hx with
      | lst h1 q1 =>
        cases hy with
        | lst h2 q2 =>
          refine ⟨_, _, _, _, rfl, rfl, msk_ex _ _ h1, msk_ex _ _ h2, ?_, fun p hp => hq _ _ (rel_new rel hp) (val_newL rel hp (dpAll_append q1 q2))⟩
          rw [dpAll_len q1, dpAll_len q2]
          exact sz_of h
    · cases hz
  · cases hz
/-- two tuples -/
def fCatT : D → D → Option R1 := fun x y => match x, y with
  | .tup a, .tup b => if a.length + b.length ≤ 100000 then some (.tup (a ++ b), false) else none
  | _, _ => none
theorem ops_catT : OpS K (rCatA K) fCatT := by
  intro Xs st σ H x y dx dy z Q rel hx hy hz hq
  unfold fCatT at hz
  split at hz
  · next a b =>
    split at hz
    · next h =>
      cases hz
      cases hx with
      | tup h1 q1 =>
        cases hy with
        | tup h2 q2 =>
          rename_i a1 xs1 a2 xs2
          refine ⟨_, _, _, _, rfl, rfl, ex_t msk_ex h1, ex_t msk_ex h2, ?_, fun e => ?_, fun e e2 => ?_, fun _ _ p hp => hq _ _ (rel_new rel hp) (val_newT rel hp (dpAll_append q1 q2))⟩
          · rw [dpAll_len q1, dpAll_len q2]
            exact sz_of h
          · subst e
            cases q1
            exact hq _ H (Post.refl rel) (.old (.tup h2 (by simpa using q2)))
          · subst e2
            cases q2
            exact hq _ H (Post.refl rel) (.old (.tup h1 (by simpa using q1)))
    · cases hz
  · cases hz
/-- a list times a number -/
def fRep : D → D → Option R1 := fun x y => match x, y with
  | .lst a, .int k => if k ≤ 100000 ∧ -100000 ≤ k ∧ a.length * k.toNat ≤ 100000 then some (.lst (List.replicate k.toNat a).flatten, true) else none
  | _, _ => none
theorem dpAll_rep {H : Hp} {vs : List V} {ds : List D} (h : DqAll K H vs ds) : ∀ n : Nat, DqAll K H (List.replicate n vs).flatten (List.replicate n ds).flatten
  | 0 => .nil
  | n + 1 => by
    rw [List.replicate_succ, List.replicate_succ, List.flatten_cons, List.flatten_cons]
    exact dpAll_append h (dpAll_rep h n)
theorem ops_rep : OpS K rRep fRep := by
  intro Xs st σ H x y dx dy z Q rel hx hy hz hq
  unfold fRep at hz
  split at hz
  · next a k =>
    split at hz
    · next h =>
      cases hz
      cases hy
      cases hx with
      | lst h1 q1 =>
        refine ⟨_, _, _, rfl, rfl, msk_ex _ _ h1, by omega, by omega, ?_, fun p hp => hq _ _ (rel_new rel hp) (val_newL rel hp (dpAll_rep q1 _))⟩
        rw [dpAll_len q1]
        exact sz_of h.2.2
    · cases hz
  · cases hz
/-- == and != -/
def fEq (b : Bool) : D → D → Option R1 := fun x y => if SeqAt.shaped x.toP && SeqAt.shaped y.toP then some (.bl (PyData.eqv x.toP y.toP == b), false) else none
theorem ops_eq : OpS K (rEqD K) (fEq true) := by
  intro Xs st σ H x y dx dy z Q rel hx hy hz hq
  unfold fEq at hz
  split at hz
  · next h =>
    cases hz
    rw [Bool.and_eq_true] at h
    refine ⟨dx.toP, dy.toP, (dp_mono msk_ex hx).dp (SeqAt.canLay_of_shaped h.1), (dp_mono msk_ex hy).dp (SeqAt.canLay_of_shaped h.2), h.1, h.2, hq _ H (Post.refl rel) (.old ?_)⟩
    show Dq K _ (V.bl _) (D.bl (PyData.eqv dx.toP dy.toP == true))
    rw [b_true]
    exact .bl _
  · cases hz
theorem ops_ne : OpS K (rNeD K) (fEq false) := by
  intro Xs st σ H x y dx dy z Q rel hx hy hz hq
  unfold fEq at hz
  split at hz
  · next h =>
    cases hz
    rw [Bool.and_eq_true] at h
    refine ⟨dx.toP, dy.toP, (dp_mono msk_ex hx).dp (SeqAt.canLay_of_shaped h.1), (dp_mono msk_ex hy).dp (SeqAt.canLay_of_shaped h.2), h.1, h.2, hq _ H (Post.refl rel) (.old ?_)⟩
    show Dq K _ (V.bl _) (D.bl (PyData.eqv dx.toP dy.toP == false))
    rw [b_false]
    exact .bl _
  · cases hz
/-- is None -/
def D.isNon : D → Bool
  | .non => true
  | _ => false
theorem dq_non {H : Hp} {v : V} {d : D} (h : Dq K H v d) : decide (v = .non) = d.isNon := by
  cases h <;> simp [D.isNon]
def fIs (b : Bool) : D → D → Option R1 := fun x y => match y with
  | .non => some (.bl (x.isNon == b), false)
  | _ => none
theorem ops_is : OpS K (fun x y H Q => y = .non ∧ Q (.bl (decide (x = .non))) H) (fIs true) := by
  intro Xs st σ H x y dx dy z Q rel hx hy hz hq
  unfold fIs at hz
  split at hz
  · cases hz
    cases hy
    refine ⟨rfl, hq _ H (Post.refl rel) (.old ?_)⟩
    show Dq K _ (V.bl _) (D.bl (dx.isNon == true))
    rw [dq_non hx, b_true]
    exact .bl _
  · cases hz
theorem ops_isnt : OpS K (fun x y H Q => y = .non ∧ Q (.bl (!decide (x = .non))) H) (fIs false) := by
  intro Xs st σ H x y dx dy z Q rel hx hy hz hq
  unfold fIs at hz
  split at hz
  · cases hz
    cases hy
    refine ⟨rfl, hq _ H (Post.refl rel) (.old ?_)⟩
    show Dq K _ (V.bl _) (D.bl (dx.isNon == false))
    rw [dq_non hx, b_false]
    exact .bl _
  · cases hz
/-- in a list -/
def fIn (b : Bool) : D → D → Option R1 := fun x y => match y with
  | .lst ds => if SeqAt.shaped x.toP && SeqAt.shaped (D.lst ds).toP then some (.bl ((ds.any fun z => PyData.eqv z.toP x.toP) == b), false) else none
  | _ => none
theorem any_toP (p : PyData → Bool) : ∀ ds : List D, (D.toPs ds).any p = ds.any fun z => p z.toP
  | [] => rfl
  | d :: ds => by show (d.toP :: D.toPs ds).any p = _; rw [List.any_cons, List.any_cons, any_toP p ds]
theorem ops_in : OpS K (rInD K) (fIn true) := by
  intro Xs st σ H x y dx dy z Q rel hx hy hz hq
  unfold fIn at hz
  split at hz
  · next ds =>
    split at hz
    · next h =>
      cases hz
      rw [Bool.and_eq_true] at h
      refine ⟨dx.toP, D.toPs ds, (dp_mono msk_ex hx).dp (SeqAt.canLay_of_shaped h.1), (dp_mono msk_ex hy).dp (SeqAt.canLay_of_shaped h.2), h.1, h.2, hq _ H (Post.refl rel) (.old ?_)⟩
      show Dq K _ (V.bl _) (D.bl ((ds.any fun z => PyData.eqv z.toP dx.toP) == true))
      rw [any_toP, b_true]
      exact .bl _
    · cases hz
  · cases hz
theorem ops_nin : OpS K (rNotInD K) (fIn false) := by
  intro Xs st σ H x y dx dy z Q rel hx hy hz hq
  unfold fIn at hz
  split at hz
  · next ds =>
    split at hz
    · next h =>
      cases hz
      rw [Bool.and_eq_true] at h
      refine ⟨dx.toP, D.toPs ds, (dp_mono msk_ex hx).dp (SeqAt.canLay_of_shaped h.1), (dp_mono msk_ex hy).dp (SeqAt.canLay_of_shaped h.2), h.1, h.2, hq _ H (Post.refl rel) (.old ?_)⟩
      show Dq K _ (V.bl _) (D.bl ((ds.any fun z => PyData.eqv z.toP dx.toP) == false))
      rw [any_toP, b_false]
      exact .bl _
    · cases hz
  · cases hz
/-- an item -/
def fIx : D → D → Option R1 := fun x y => match x, y with
  | .tup ds, .int i => (atI ds i).map (·, false)
  | .lst ds, .int i => (atI ds i).map (·, false)
  | .scr ns, .int i => (atI ns i).map fun n => (.int n, false)
  | _, _ => none
theorem atI_get {H : Hp} {vs : List V} {ds : List D} {i : Int} {d : D} (h : DqAll K H vs ds) (e : atI ds i = some d) : ∃ v, atI vs i = some v ∧ Dq K H v d := by
  unfold atI at e ⊢
  rw [dpAll_len h]
  cases e1 : ixN ds.length i with
  | none => rw [e1] at e; cases e
  | some j =>
    rw [e1] at e
    exact dpAll_getD h e
theorem atI_map {α β : Type} (f : α → β) (xs : List α) (i : Int) : atI (xs.map f) i = (atI xs i).map f := by
  unfold atI
  rw [List.length_map]
  cases ixN xs.length i with
  | none => rfl
  | some j => show (xs.map f)[j]? = (xs[j]?).map f; rw [List.getElem?_map]
theorem ops_ix : OpS K (rIx K) fIx := by
  intro Xs st σ H x y dx dy z Q rel hx hy hz hq
  unfold fIx at hz
  split at hz
  · next ds i =>
    cases e : atI ds i with
    | none => rw [e] at hz; cases hz
    | some d =>
      rw [e] at hz
      cases hz
      cases hy
      cases hx with
      | tup h1 q1 =>
        obtain ⟨v, e1, e2⟩ := atI_get q1 e
        exact .inr (.inl ⟨_, _, _, v, rfl, rfl, ex_t msk_ex h1, e1, hq v H (Post.refl rel) (.old e2)⟩)
  · next ds i =>
    cases e : atI ds i with
    | none => rw [e] at hz; cases hz
    | some d =>
      rw [e] at hz
      cases hz
      cases hy
      cases hx with
      | lst h1 q1 =>
        obtain ⟨v, e1, e2⟩ := atI_get q1 e
        exact .inl ⟨_, _, _, v, rfl, rfl, SqL.of (msk_ex _ _ h1), e1, hq v H (Post.refl rel) (.old e2)⟩
  · next ns i =>
    cases e : atI ns i with
    | none => rw [e] at hz; cases hz
    | some n =>
      rw [e] at hz
      cases hz
      cases hy
      cases hx with
      | scr h1 =>
        refine .inl ⟨_, ns.map V.int, _, V.int n, rfl, rfl, ex_l msk_ex h1, ?_, hq _ H (Post.refl rel) (.old (.int n))⟩
        rw [atI_map, e]
        rfl
  · cases hz
end

section
variable {X : Cx}
theorem op_fdivX : OpR X (binaryOp .FloorDiv) (rI (fun _ j => j ≠ 0 ∧ j.natAbs.log2 < 9000) fun i j => .int (i.fdiv j)) := opI fun i j _ _ _ _ _ hc q => floordiv_int hc.1 q (.inl (PyProof.noPylong_of_log2 hc.2))
end
def fAdd : D → D → Option R1 := fun x y => match fI0 (fun i j => .int (i + j)) x y with
  | some z => some z
  | none => match fCat x y with
    | some z => some z
    | none => fCatT x y
def fSub : D → D → Option R1 := fI0 fun i j => .int (i - j)
def fMul : D → D → Option R1 := fun x y => match fI (fun i j => decide (i.natAbs.log2 + j.natAbs.log2 < 1000000)) (fun i j => .int (i * j)) x y with
  | some z => some z
  | none => fRep x y
def fDiv : D → D → Option R1 := fI (fun _ j => decide (j ≠ 0 ∧ j.natAbs.log2 < 9000)) fun i j => .int (i.fdiv j)
def fMod : D → D → Option R1 := fI (fun _ j => decide (j ≠ 0)) fun i j => .int (i.fmod j)
def fPow : D → D → Option R1 := fI (fun i j => decide (0 ≤ j ∧ j ≤ 1000000 ∧ i.natAbs < 2 ^ 64)) fun i j => .int (i ^ j.toNat)
def fLt : D → D → Option R1 := fun x y => match fI0 (fun i j => .bl (decide (i < j))) x y with
  | some z => some z
  | none => fS (fun i j => .bl (decide (i.cps.toList < j.cps.toList))) x y
def fLe : D → D → Option R1 := fI0 fun i j => .bl (decide (i ≤ j))
def fGt : D → D → Option R1 := fI0 fun i j => .bl (decide (j < i))
def fGe : D → D → Option R1 := fI0 fun i j => .bl (decide (j ≤ i))
def fNeg : D → Option R1 := fun x => match x with
  | .int i => some (.int (-i), false)
  | _ => none
section
variable {X : Cx} {w : Wi} {pos : Pos} {a b : Expr} {ea eb : EvE}
theorem x_add (ha : PE X a (tE X.K w ea)) (hb : PE X b (tE X.K w eb)) : PE X (.BinOp a .Add b pos) (tE X.K w (eBin fAdd ea eb)) :=
  x_bin (OpR.or op_add (OpR.or op_cat op_catA)) (ops_or (ops_i0 fun _ _ _ => .int _) (ops_or ops_cat ops_catT)) ha hb
theorem x_sub (ha : PE X a (tE X.K w ea)) (hb : PE X b (tE X.K w eb)) : PE X (.BinOp a .Sub b pos) (tE X.K w (eBin fSub ea eb)) := x_bin op_sub (ops_i0 fun _ _ _ => .int _) ha hb
theorem x_mul (ha : PE X a (tE X.K w ea)) (hb : PE X b (tE X.K w eb)) : PE X (.BinOp a .Mult b pos) (tE X.K w (eBin fMul ea eb)) :=
  x_bin (OpR.or op_mulW op_rep) (ops_or (ops_i (fun i j h => show CMulW i j from of_decide_eq_true (p := i.natAbs.log2 + j.natAbs.log2 < 1000000) h) fun _ _ _ => .int _) ops_rep) ha hb
theorem x_div (ha : PE X a (tE X.K w ea)) (hb : PE X b (tE X.K w eb)) : PE X (.BinOp a .FloorDiv b pos) (tE X.K w (eBin fDiv ea eb)) := x_bin op_fdivX (ops_i (fun _ _ h => of_decide_eq_true h) fun _ _ _ => .int _) ha hb
theorem x_mod (ha : PE X a (tE X.K w ea)) (hb : PE X b (tE X.K w eb)) : PE X (.BinOp a .Mod b pos) (tE X.K w (eBin fMod ea eb)) := x_bin op_modN (ops_i (fun _ _ h => of_decide_eq_true h) fun _ _ _ => .int _) ha hb
theorem x_pow (ha : PE X a (tE X.K w ea)) (hb : PE X b (tE X.K w eb)) : PE X (.BinOp a .Pow b pos) (tE X.K w (eBin fPow ea eb)) := x_bin op_pow (ops_i (fun i j h => show CPow i j from of_decide_eq_true (p := 0 ≤ j ∧ j ≤ 1000000 ∧ i.natAbs < 2 ^ 64) h) fun _ _ _ => .int _) ha hb
theorem x_neg (ha : PE X a (tE X.K w ea)) : PE X (.UnaryOp .USub a pos) (tE X.K w (eUn fNeg ea)) := x_un un_neg (fun Xs st σ H x dx z Q rel hx hz hq => by
  unfold fNeg at hz
  split at hz
  · next i =>
    cases hz
    cases hx
    exact ⟨i, rfl, hq _ H (Post.refl rel) (.old (.int _))⟩
  · cases hz) ha
theorem x_lt (ha : PE X a (tE X.K w ea)) (hb : PE X b (tE X.K w eb)) : PE X (.Compare a [.Lt] [b] pos) (tE X.K w (eBin fLt ea eb)) := x_cmp (OpR.or op_lt op_lt_str) (ops_or (ops_i0 fun _ _ _ => .bl _) (ops_s fun _ _ _ => .bl _)) ha hb
theorem x_le (ha : PE X a (tE X.K w ea)) (hb : PE X b (tE X.K w eb)) : PE X (.Compare a [.LtE] [b] pos) (tE X.K w (eBin fLe ea eb)) := x_cmp op_le (ops_i0 fun _ _ _ => .bl _) ha hb
theorem x_gt (ha : PE X a (tE X.K w ea)) (hb : PE X b (tE X.K w eb)) : PE X (.Compare a [.Gt] [b] pos) (tE X.K w (eBin fGt ea eb)) := x_cmp op_gt (ops_i0 fun _ _ _ => .bl _) ha hb
theorem x_ge (ha : PE X a (tE X.K w ea)) (hb : PE X b (tE X.K w eb)) : PE X (.Compare a [.GtE] [b] pos) (tE X.K w (eBin fGe ea eb)) := x_cmp op_ge (ops_i0 fun _ _ _ => .bl _) ha hb
theorem x_eq (hu : X.A.units + 64 < cLine) (ha : PE X a (tE X.K w ea)) (hb : PE X b (tE X.K w eb)) : PE X (.Compare a [.Eq] [b] pos) (tE X.K w (eBin (fEq true) ea eb)) := x_cmp (op_eqD hu) ops_eq ha hb
theorem x_ne (hu : X.A.units + 64 < cLine) (ha : PE X a (tE X.K w ea)) (hb : PE X b (tE X.K w eb)) : PE X (.Compare a [.NotEq] [b] pos) (tE X.K w (eBin (fEq false) ea eb)) := x_cmp (op_neD hu) ops_ne ha hb
theorem x_is (ha : PE X a (tE X.K w ea)) (hb : PE X b (tE X.K w eb)) : PE X (.Compare a [.Is] [b] pos) (tE X.K w (eBin (fIs true) ea eb)) := x_cmp op_isN ops_is ha hb
theorem x_isnt (ha : PE X a (tE X.K w ea)) (hb : PE X b (tE X.K w eb)) : PE X (.Compare a [.IsNot] [b] pos) (tE X.K w (eBin (fIs false) ea eb)) := x_cmp op_notN ops_isnt ha hb
theorem x_in (hu : X.A.units + 65 < cLine) (ha : PE X a (tE X.K w ea)) (hb : PE X b (tE X.K w eb)) (hm : behindInMarks .In b = false := by rfl) : PE X (.Compare a [.In] [b] pos) (tE X.K w (eBin (fIn true) ea eb)) := x_cmp (op_inD hu) ops_in ha hb hm
theorem x_nin (hu : X.A.units + 65 < cLine) (ha : PE X a (tE X.K w ea)) (hb : PE X b (tE X.K w eb)) (hm : behindInMarks .NotIn b = false := by rfl) : PE X (.Compare a [.NotIn] [b] pos) (tE X.K w (eBin (fIn false) ea eb)) := x_cmp (op_notInD hu) ops_nin ha hb hm
theorem x_item (ha : PE X a (tE X.K w ea)) (hb : PE X b (tE X.K w eb)) (hp : PlainIx b := by exact fun _ _ => rfl) : PE X (.Subscript a b pos) (tE X.K w (eBin fIx ea eb)) := x_ix ix_seq ops_ix ha hb hp
end

/-! ### an item of a named list, which is not let go -/
def slD : Option Sl → Option D
  | some (.pu d) => some d
  | some (.ow ds) => some (.lst ds)
  | _ => none
def eIxV (i : Nat) (b : EvE) : EvE := fun st => match slD st[i]? with
  | none => .no
  | some _ => (b st).bind fun y st1 => match slD st1[i]? with
    | none => .no
    | some d => match fIx d y.1 with
      | some z => .ok z st1
      | none => .no
section
variable {X : Cx} {w : Wi} {pos apos : Pos} {b : Expr} {eb : EvE}
/-- what stands in a slot: a value that is read now -/
theorem slD_at {K : PySem.W.Frag} {Xs : List Addr} {st : List Sl} {σ : L2.St} {H : Hp} {i : Nat} {d : D} (r : Rel K Xs st σ H) (h : slD st[i]? = some d) : ∃ v, σ[i]? = some (some v) ∧ (Dq K (vis Xs st σ H) v d ∨ ∃ p vs ds, v = .ref p ∧ d = .lst ds ∧ H p = some (.lst vs) ∧ DqAll K (vis Xs st σ H) vs ds) := by
  cases e : st[i]? with
  | none => rw [e] at h; cases h
  | some s =>
    rw [e] at h
    cases s with
    | un => cases h
    | pu d' =>
      cases h
      obtain ⟨v, e1, e2⟩ := r.pu i _ e
      exact ⟨v, e1, .inl e2⟩
    | ow ds =>
      cases h
      obtain ⟨p, vs, e1, e2, e3⟩ := r.ow i _ e
      exact ⟨_, e1, .inr ⟨p, vs, ds, rfl, rfl, e2, e3⟩⟩
theorem x_itemV (i : Nat) {x : Str} (hb : PE X b (tE X.K w eb)) (hN : X.N[i]? = some x := by rfl) (hv : Vis X.env.scope x := by first | exact Or.inl rfl | exact Or.inr (Or.inl rfl) | exact Or.inr (Or.inr rfl)) (hp : PlainIx b := by exact fun _ _ => rfl) (hd : (x == ("__debug__" : Str)) = false := by decide)
    (hcd : (x == ("__classdict__" : Str)) = false := by decide) : PE X (.Subscript (.Name x apos) b pos) (tE X.K w (eIxV i eb)) := by
  refine PE.of (pe_ix ix_seq (pe_var hN hv hd hcd) hb hp) fun σ H Q h => ?_
  obtain ⟨Xs, st, rel, h⟩ := h
  unfold eIxV at h
  split at h
  · exact h.elim
  · next d0 e0 =>
    obtain ⟨v, ev, _⟩ := slD_at rel e0
    refine ⟨v, ev, tE_seq rel h fun y H1 ry st1 p1 v1 h1 => ?_⟩
    split at h1
    · exact h1.elim
    · next d e1 =>
      split at h1
      · next z ez =>
        obtain ⟨v', ev', hv'⟩ := slD_at p1.rel e1
        have evv : v' = v := by rw [ev] at ev'; cases ev'; rfl
        subst evv
        rcases hv' with hv' | ⟨p, vs, ds, rfl, rfl, e2, e3⟩
        · exact ops_ix Xs st1 σ H1 v' y d ry.1 z Q p1.rel hv' v1.dp ez fun u H2 p2 v2 => h1 u H2 (p1.trans p2) (.of p1 v2)
        · have dy := v1.dp
          revert ez
          unfold fIx
          cases hy : ry.1 with
          | int j =>
            intro ez
            rw [hy] at dy
            cases dy
            have ez' : (atI ds j).map (fun x => (x, false)) = some z := ez
            cases e : atI ds j with
            | none => rw [e] at ez'; cases ez'
            | some d2 =>
              rw [e] at ez'
              cases ez' 
              obtain ⟨u, e4, e5⟩ := atI_get e3 e
              exact .inl ⟨_, _, _, u, rfl, rfl, SqL.of e2, e4, h1 u H1 p1 (.old e5)⟩
          | _ => intro ez; cases ez
      · exact h1.elim
end

/-! ### argument lists, displays -/
def aNil : EvA := fun st => .ok [] st
def aCons (a : EvE) (r : EvA) : EvA := fun st => (a st).bind fun x st1 => (r st1).bind fun xs st2 => .ok (x.1 :: xs) st2
def eTup (a : EvA) : EvE := fun st => (a st).bind fun ds st1 => if ds.length ≤ 100000 then .ok (.tup ds, false) st1 else .no
def eLst (a : EvA) : EvE := fun st => (a st).bind fun ds st1 => if ds.length ≤ 100000 then .ok (.lst ds, true) st1 else .no
section
variable {X : Cx} {w : Wi} {pos : Pos} {e : Expr} {es : List Expr} {ea : EvE} {er : EvA}
theorem xa_nil : PA X [] (tA X.K w aNil) := PA.of pa_nil fun σ H Q h => by
  obtain ⟨Xs, st, rel, h⟩ := h
  exact h [] H (Post.refl rel) .nil
theorem xa_cons (ha : PE X e (tE X.K w ea)) (hr : PA X es (tA X.K w er)) (hs : starEach (e :: es) X.env = (false, eval e X.env) :: starEach es X.env := by rfl) : PA X (e :: es) (tA X.K w (aCons ea er)) :=
  PA.of (pa_cons ha hr hs) fun σ H Q h => by
    obtain ⟨Xs, st, rel, h⟩ := h
    refine tE_seq rel h fun x H1 rx st1 p1 v1 h1 => ?_
    refine tA_seq p1.rel h1 fun xs H2 ds st2 p2 q2 h2 => ?_
    exact h2 (x :: xs) H2 (p1.trans p2) (.cons (dp_mono p2.ex v1.dp) q2)
theorem x_tup {k : Nat} (h : PA X es (tA X.K w er)) : PE X (.Tuple es k pos) (tE X.K w (eTup er)) := PE.of (pe_tup h) fun σ H Q h => by
  obtain ⟨Xs, st, rel, h⟩ := h
  refine tA_seq rel h fun xs H1 ds st1 p1 q1 h1 => ?_
  split at h1
  · next hl =>
    refine ⟨by rw [dpAll_len q1]; exact sz_of hl, fun p hp => ?_⟩
    exact h1 _ _ (p1.trans (rel_new p1.rel hp)) (.of p1 (val_newT p1.rel hp q1))
  · exact h1.elim
theorem x_lst (h : PA X es (tA X.K w er)) : PE X (.List es pos) (tE X.K w (eLst er)) := PE.of (pe_lst h) fun σ H Q h => by
  obtain ⟨Xs, st, rel, h⟩ := h
  refine tA_seq rel h fun xs H1 ds st1 p1 q1 h1 => ?_
  split at h1
  · next hl =>
    refine ⟨by rw [dpAll_len q1]; exact sz_of hl, fun p hp => ?_⟩
    exact h1 _ _ (p1.trans (rel_new p1.rel hp)) (.of p1 (val_newL p1.rel hp q1))
  · exact h1.elim
end

/-! ### and, or, not, if, tests -/
def D.bool? : D → Option Bool
  | .bl b => some b
  | _ => none
def eAnd (a b : EvE) : EvE := fun st => (a st).bind fun x st1 => match x.1.bool? with
  | some true => b st1
  | some false => .ok (.bl false, false) st1
  | none => .no
def eOr (a b : EvE) : EvE := fun st => (a st).bind fun x st1 => match x.1.bool? with
  | some true => .ok (.bl true, false) st1
  | some false => b st1
  | none => .no
def eNot (a : EvE) : EvE := fun st => (a st).bind fun x st1 => match x.1.bool? with
  | some c => .ok (.bl (!c), false) st1
  | none => .no
def eIf (t : EvT) (a b : EvE) : EvE := fun st => (t st).bind fun c st1 => if c = true then a st1 else b st1
def tOf (a : EvE) : EvT := fun st => (a st).bind fun x st1 => match x.1.bool? with
  | some c => .ok c st1
  | none => .no
def tAnd' (a b : EvT) : EvT := fun st => (a st).bind fun c st1 => if c = true then b st1 else .ok false st1
def tOr' (a b : EvT) : EvT := fun st => (a st).bind fun c st1 => if c = true then .ok true st1 else b st1
def tNot' (a : EvT) : EvT := fun st => (a st).bind fun c st1 => .ok (!c) st1
theorem bool?_of {d : D} {c : Bool} (h : d.bool? = some c) : d = .bl c := by
  cases d <;> first | (simp only [D.bool?, Option.some.injEq] at h; rw [h]) | cases h
section
variable {X : Cx} {w : Wi} {pos : Pos} {a b : Expr} {rest : List Expr} {ea eb : EvE} {ta tb : EvT}
theorem x_and (ha : PE X a (tE X.K w ea)) (hb : PE X (.BoolOp .And (b :: rest) pos) (tE X.K w eb)) : PE X (.BoolOp .And (a :: b :: rest) pos) (tE X.K w (eAnd ea eb)) := PE.of (pe_and ha hb) fun σ H Q h => by
  obtain ⟨Xs, st, rel, h⟩ := h
  refine tE_seq rel h fun x H1 rx st1 p1 v1 h1 => ?_
  split at h1
  · next ec =>
    have dp := v1.dp
    rw [bool?_of ec] at dp
    cases dp
    refine ⟨true, rfl, iteT ⟨Xs, st1, p1.rel, h1.mono (fun z s k v H2 p2 v2 => k v H2 (p1.trans p2) (.of p1 v2)) fun _ _ _ x => x⟩⟩
  · next ec =>
    have dp := v1.dp
    rw [bool?_of ec] at dp
    cases dp
    exact ⟨false, rfl, iteF (h1 _ H1 p1 (.old (.bl false)))⟩
  · exact h1.elim
theorem x_or (ha : PE X a (tE X.K w ea)) (hb : PE X (.BoolOp .Or (b :: rest) pos) (tE X.K w eb)) : PE X (.BoolOp .Or (a :: b :: rest) pos) (tE X.K w (eOr ea eb)) := PE.of (pe_or ha hb) fun σ H Q h => by
  obtain ⟨Xs, st, rel, h⟩ := h
  refine tE_seq rel h fun x H1 rx st1 p1 v1 h1 => ?_
  split at h1
  · next ec =>
    have dp := v1.dp
    rw [bool?_of ec] at dp
    cases dp
    exact ⟨true, rfl, iteT (h1 _ H1 p1 (.old (.bl true)))⟩
  · next ec =>
    have dp := v1.dp
    rw [bool?_of ec] at dp
    cases dp
    refine ⟨false, rfl, iteF ⟨Xs, st1, p1.rel, h1.mono (fun z s k v H2 p2 v2 => k v H2 (p1.trans p2) (.of p1 v2)) fun _ _ _ x => x⟩⟩
  · exact h1.elim
theorem x_one {op : BoolOp} (ha : PE X a (tE X.K w ea)) : PE X (.BoolOp op [a] pos) (tE X.K w ea) := pe_one ha
theorem x_not (ha : PE X a (tE X.K w ea)) : PE X (.UnaryOp .Not a pos) (tE X.K w (eNot ea)) := PE.of (pe_not ha) fun σ H Q h => by
  obtain ⟨Xs, st, rel, h⟩ := h
  refine tE_seq rel h fun x H1 rx st1 p1 v1 h1 => ?_
  split at h1
  · next c ec =>
    have dp := v1.dp
    rw [bool?_of ec] at dp
    cases dp
    exact ⟨c, rfl, h1 _ H1 p1 (.old (.bl _))⟩
  · exact h1.elim
theorem x_if {c : Expr} (hc : PT X c (tT X.K w ta)) (ha : PE X a (tE X.K w ea)) (hb : PE X b (tE X.K w eb)) : PE X (.IfExp c a b pos) (tE X.K w (eIf ta ea eb)) := PE.of (pe_ifExp hc ha hb) fun σ H Q h => by
  obtain ⟨Xs, st, rel, h⟩ := h
  refine tT_seq rel h fun c H1 st1 p1 h1 => ?_
  cases c with
  | true => exact iteT ⟨Xs, st1, p1.rel, (show Rdo (ea st1) _ _ from h1).mono (fun z s k v H2 p2 v2 => k v H2 (p1.trans p2) (.of p1 v2)) fun _ _ _ x => x⟩
  | false => exact iteF ⟨Xs, st1, p1.rel, (show Rdo (eb st1) _ _ from h1).mono (fun z s k v H2 p2 v2 => k v H2 (p1.trans p2) (.of p1 v2)) fun _ _ _ x => x⟩
/-- a value as a test -/
theorem xt_val (ha : PE X a (tE X.K w ea)) (he : ∀ whole, isTrue a X.env whole = (do let v ← whole; standAt a.pos; holding [v] (truthy v)) := by intro _; rfl) : PT X a (tT X.K w (tOf ea)) := PT.of (pt_val ha he) fun σ H Q h => by
  obtain ⟨Xs, st, rel, h⟩ := h
  refine tE_seq rel h fun x H1 rx st1 p1 v1 h1 => ?_
  split at h1
  · next c ec =>
    have dp := v1.dp
    rw [bool?_of ec] at dp
    cases dp
    exact ⟨c, rfl, h1 H1 p1⟩
  · exact h1.elim
theorem xt_cmp {r : R2} {f : D → D → Option R1} {op : CmpOp} (ho : OpR X (compareOp op) r) (hs : OpS X.K r f) (ha : PE X a (tE X.K w ea)) (hb : PE X b (tE X.K w eb)) (hm : behindInMarks op b = false) : PT X (.Compare a [op] [b] pos) (tT X.K w (tOf (eBin f ea eb))) := PT.of (pt_cmpR ho ha hb hm) fun σ H Q h => by
  obtain ⟨Xs, st, rel, h⟩ := h
  show tOp r (tE X.K w ea) (tE X.K w eb) σ H _
  refine tOp_of hs (tE_seq rel h fun x H1 rx st1 p1 v1 h1 => ?_)
  split at h1
  · next c ec =>
    have dp := v1.dp
    rw [bool?_of ec] at dp
    cases dp
    exact ⟨c, rfl, h1 H1 p1⟩
  · exact h1.elim
theorem xt_lt (ha : PE X a (tE X.K w ea)) (hb : PE X b (tE X.K w eb)) : PT X (.Compare a [.Lt] [b] pos) (tT X.K w (tOf (eBin fLt ea eb))) := xt_cmp (OpR.or op_lt op_lt_str) (ops_or (ops_i0 fun _ _ _ => .bl _) (ops_s fun _ _ _ => .bl _)) ha hb (nomark _)
theorem xt_le (ha : PE X a (tE X.K w ea)) (hb : PE X b (tE X.K w eb)) : PT X (.Compare a [.LtE] [b] pos) (tT X.K w (tOf (eBin fLe ea eb))) := xt_cmp op_le (ops_i0 fun _ _ _ => .bl _) ha hb (nomark _)
theorem xt_gt (ha : PE X a (tE X.K w ea)) (hb : PE X b (tE X.K w eb)) : PT X (.Compare a [.Gt] [b] pos) (tT X.K w (tOf (eBin fGt ea eb))) := xt_cmp op_gt (ops_i0 fun _ _ _ => .bl _) ha hb (nomark _)
theorem xt_ge (ha : PE X a (tE X.K w ea)) (hb : PE X b (tE X.K w eb)) : PT X (.Compare a [.GtE] [b] pos) (tT X.K w (tOf (eBin fGe ea eb))) := xt_cmp op_ge (ops_i0 fun _ _ _ => .bl _) ha hb (nomark _)
theorem xt_eq (hu : X.A.units + 64 < cLine) (ha : PE X a (tE X.K w ea)) (hb : PE X b (tE X.K w eb)) : PT X (.Compare a [.Eq] [b] pos) (tT X.K w (tOf (eBin (fEq true) ea eb))) := xt_cmp (op_eqD hu) ops_eq ha hb (nomark _)
theorem xt_ne (hu : X.A.units + 64 < cLine) (ha : PE X a (tE X.K w ea)) (hb : PE X b (tE X.K w eb)) : PT X (.Compare a [.NotEq] [b] pos) (tT X.K w (tOf (eBin (fEq false) ea eb))) := xt_cmp (op_neD hu) ops_ne ha hb (nomark _)
theorem xt_is (ha : PE X a (tE X.K w ea)) (hb : PE X b (tE X.K w eb)) : PT X (.Compare a [.Is] [b] pos) (tT X.K w (tOf (eBin (fIs true) ea eb))) := xt_cmp op_isN ops_is ha hb (nomark _)
theorem xt_isnt (ha : PE X a (tE X.K w ea)) (hb : PE X b (tE X.K w eb)) : PT X (.Compare a [.IsNot] [b] pos) (tT X.K w (tOf (eBin (fIs false) ea eb))) := xt_cmp op_notN ops_isnt ha hb (nomark _)
theorem xt_in (hu : X.A.units + 65 < cLine) (ha : PE X a (tE X.K w ea)) (hb : PE X b (tE X.K w eb)) (hm : behindInMarks .In b = false := by rfl) : PT X (.Compare a [.In] [b] pos) (tT X.K w (tOf (eBin (fIn true) ea eb))) := xt_cmp (op_inD hu) ops_in ha hb hm
theorem xt_nin (hu : X.A.units + 65 < cLine) (ha : PE X a (tE X.K w ea)) (hb : PE X b (tE X.K w eb)) (hm : behindInMarks .NotIn b = false := by rfl) : PT X (.Compare a [.NotIn] [b] pos) (tT X.K w (tOf (eBin (fIn false) ea eb))) := xt_cmp (op_notInD hu) ops_nin ha hb hm
theorem xt_not (ha : PT X a (tT X.K w ta)) : PT X (.UnaryOp .Not a pos) (tT X.K w (tNot' ta)) := PT.of (pt_not ha) fun σ H Q h => by
  obtain ⟨Xs, st, rel, h⟩ := h
  exact tT_seq rel h fun c H1 st1 p1 h1 => h1 H1 p1
theorem xw_one {op : BoolOp} (ha : PT X a (tT X.K w ta)) : PW X (.BoolOp op [a] pos) (tT X.K w ta) := by
  cases op with
  | And => exact pw_and1 ha
  | Or => exact pw_or1 ha
theorem xw_and (ha : PT X a (tT X.K w ta)) (hb : PW X (.BoolOp .And (b :: rest) pos) (tT X.K w tb)) : PW X (.BoolOp .And (a :: b :: rest) pos) (tT X.K w (tAnd' ta tb)) := PW.of (pw_and ha hb) fun σ H Q h => by
  obtain ⟨Xs, st, rel, h⟩ := h
  refine tT_seq rel h fun c H1 st1 p1 h1 => ?_
  cases c with
  | true => exact iteT ⟨Xs, st1, p1.rel, (show Rdo (tb st1) _ _ from h1).mono (fun z s k H2 p2 => k H2 (p1.trans p2)) fun _ _ _ x => x⟩
  | false => exact iteF (h1 H1 p1)
theorem xw_or (ha : PT X a (tT X.K w ta)) (hb : PW X (.BoolOp .Or (b :: rest) pos) (tT X.K w tb)) : PW X (.BoolOp .Or (a :: b :: rest) pos) (tT X.K w (tOr' ta tb)) := PW.of (pw_or ha hb) fun σ H Q h => by
  obtain ⟨Xs, st, rel, h⟩ := h
  refine tT_seq rel h fun c H1 st1 p1 h1 => ?_
  cases c with
  | true => exact iteT (h1 H1 p1)
  | false => exact iteF ⟨Xs, st1, p1.rel, (show Rdo (tb st1) _ _ from h1).mono (fun z s k H2 p2 => k H2 (p1.trans p2)) fun _ _ _ x => x⟩
end
end TX

end

section
set_option Elab.async false
set_option linter.all false
set_option maxRecDepth 100000
set_option maxHeartbeats 2000000
namespace TX
open PySem L2 Evl PyProof.Rows

/-! ### built-in functions of one thing: a value, or a list that a name holds -/
def Bq (K : PySem.W.Frag) (Xs : List Addr) (st : List Sl) (σ : L2.St) (H : Hp) (v : V) (d : D) : Prop :=
  Dq K (vis Xs st σ H) v d ∨ ∃ p vs ds, v = .ref p ∧ d = .lst ds ∧ H p = some (.lst vs) ∧ DqAll K (vis Xs st σ H) vs ds
/-- a list is a list, however it is held -/
theorem Bq.lst {K : PySem.W.Frag} {Xs : List Addr} {st : List Sl} {σ : L2.St} {H : Hp} {v : V} {ds : List D} (h : Bq K Xs st σ H v (.lst ds)) : ∃ p vs, v = .ref p ∧ H p = some (.lst vs) ∧ DqAll K (vis Xs st σ H) vs ds := by
  rcases h with h | ⟨p, vs, ds', rfl, e, h1, h2⟩
  · cases h with
    | lst h1 h2 => exact ⟨_, _, rfl, msk_ex _ _ h1, h2⟩
  · cases e
    exact ⟨p, vs, rfl, h1, h2⟩
theorem Bq.dq {K : PySem.W.Frag} {Xs : List Addr} {st : List Sl} {σ : L2.St} {H : Hp} {v : V} {d : D} (h : Bq K Xs st σ H v d) (hd : ∀ ds, d ≠ .lst ds) : Dq K (vis Xs st σ H) v d := by
  rcases h with h | ⟨p, vs, ds', rfl, e, h1, h2⟩
  · exact h
  · exact absurd e (hd ds')
def Cb1 (K : PySem.W.Frag) (r : List V → Hp → VK → Prop) (f : D → Option R1) : Prop := ∀ (Xs : List Addr) (st : List Sl) (σ : L2.St) (H : Hp) (x : V) (dx : D) (z : R1) (Q : VK), Rel K Xs st σ H → Bq K Xs st σ H x dx → f dx = some z →
  (∀ v H', Post K Xs st σ H st H' → Val K Xs σ H st H' v z → Q v H') → r [x] H Q
def Cb2 (K : PySem.W.Frag) (r : List V → Hp → VK → Prop) (f : D → D → Option R1) : Prop := ∀ (Xs : List Addr) (st : List Sl) (σ : L2.St) (H : Hp) (x y : V) (dx dy : D) (z : R1) (Q : VK), Rel K Xs st σ H → Dq K (vis Xs st σ H) x dx → Dq K (vis Xs st σ H) y dy → f dx dy = some z →
  (∀ v H', Post K Xs st σ H st H' → Val K Xs σ H st H' v z → Q v H') → r [x, y] H Q
def eV1 (f : D → Option R1) (i : Nat) : EvE := fun st => match slD st[i]? with
  | none => .no
  | some d => match f d with
    | some z => .ok z st
    | none => .no
section
variable {K : PySem.W.Frag} {w : Wi} {r : List V → Hp → VK → Prop} {σ : L2.St} {H : Hp} {Q : VK}
theorem tCB1_of {f : D → Option R1} {ea : EvE} (ho : Cb1 K r f) (h : tE K w (eUn f ea) σ H Q) : tCB r (tCons (tE K w ea) tNil) σ H Q := by
  obtain ⟨Xs, st, rel, h⟩ := h
  refine tE_seq rel h fun x H1 rx st1 p1 v1 h1 => ?_
  split at h1
  · next z ez => exact ho Xs st1 σ H1 x rx.1 z Q p1.rel (.inl v1.dp) ez fun v H' p3 v3 => h1 v H' (p1.trans p3) (.of p1 v3)
  · exact h1.elim
theorem tCB1V_of {f : D → Option R1} {i : Nat} (ho : Cb1 K r f) (h : tE K w (eV1 f i) σ H Q) : tCB r (tCons (tVar i) tNil) σ H Q := by
  obtain ⟨Xs, st, rel, h⟩ := h
  unfold eV1 at h
  split at h
  · exact h.elim
  · next d e =>
    obtain ⟨v, e1, e2⟩ := slD_at rel e
    split at h
    · next z ez => exact ⟨v, e1, ho Xs st σ H v d z Q rel e2 ez h⟩
    · exact h.elim
theorem tCB2_of {f : D → D → Option R1} {ea eb : EvE} (ho : Cb2 K r f) (h : tE K w (eBin f ea eb) σ H Q) : tCB r (tCons (tE K w ea) (tCons (tE K w eb) tNil)) σ H Q := by
  obtain ⟨Xs, st, rel, h⟩ := h
  refine tE_seq rel h fun x H1 rx st1 p1 v1 h1 => ?_
  refine tE_seq p1.rel h1 fun y H2 ry st2 p2 v2 h2 => ?_
  split at h2
  · next z ez =>
    refine ho Xs st2 σ H2 x y rx.1 ry.1 z Q p2.rel (dp_mono p2.ex v1.dp) v2.dp ez fun v H' p3 v3 => ?_
    exact h2 v H' ((p1.trans p2).trans p3) (.of (p1.trans p2) v3)
  · exact h2.elim
end
section
variable {X : Cx} {w : Wi} {x n : Str} {p pos apos : Pos} {a b : Expr} {ea eb : EvE} {id T : String} {r : List V → Hp → VK → Prop} {f : D → Option R1} {g : D → D → Option R1}
theorem x_b1 (hc : CallR X (.builtin id) r) (hs : Cb1 X.K r f) (hm : X.mg x = none) (hv : bootBuiltins x = some (.builtin id)) (ha : PE X a (tE X.K w ea)) (hg : Gl X x := by rfl) (hn : x ≠ "__name__" := by decide) (hdb : (x == ("__debug__" : Str)) = false := by decide)
    (he : starEach [a] X.env = (false, eval a X.env) :: starEach [] X.env := by rfl) (hpl : (backTo pos (starEach [] X.env)).any (·.1) = false := by rfl) : PE X (.Call (.Name x p) [a] [] pos) (tE X.K w (eUn f ea)) :=
  PE.of (pe_callB hc hg hm hv (pa_cons ha pa_nil he) hn hdb he hpl) fun σ H Q h => tCB1_of hs h
theorem x_b1V (i : Nat) (hc : CallR X (.builtin id) r) (hs : Cb1 X.K r f) (hm : X.mg x = none) (hv : bootBuiltins x = some (.builtin id)) (hg : Gl X x := by rfl) (hN : X.N[i]? = some n := by rfl) (hvs : Vis X.env.scope n := by first | exact Or.inl rfl | exact Or.inr (Or.inl rfl) | exact Or.inr (Or.inr rfl))
    (hn : x ≠ "__name__" := by decide) (hdb : (x == ("__debug__" : Str)) = false := by decide) (hd : (n == ("__debug__" : Str)) = false := by decide) (hcd : (n == ("__classdict__" : Str)) = false := by decide) : PE X (.Call (.Name x p) [.Name n apos] [] pos) (tE X.K w (eV1 f i)) :=
  PE.of (pe_callB hc hg hm hv (pa_cons (pe_var hN hvs hd hcd) pa_nil) hn hdb) fun σ H Q h => tCB1V_of hs h
theorem x_b2 (hc : CallR X (.builtin id) r) (hs : Cb2 X.K r g) (hm : X.mg x = none) (hv : bootBuiltins x = some (.builtin id)) (ha : PE X a (tE X.K w ea)) (hb : PE X b (tE X.K w eb)) (hg : Gl X x := by rfl) (hn : x ≠ "__name__" := by decide) (hdb : (x == ("__debug__" : Str)) = false := by decide)
    (he : starEach [a, b] X.env = (false, eval a X.env) :: starEach [b] X.env := by rfl) (he2 : starEach [b] X.env = (false, eval b X.env) :: starEach [] X.env := by rfl) (hpl : (backTo pos (starEach [b] X.env)).any (·.1) = false := by rfl) : PE X (.Call (.Name x p) [a, b] [] pos) (tE X.K w (eBin g ea eb)) :=
  PE.of (pe_callB hc hg hm hv (pa_cons ha (pa_cons hb pa_nil he2) he) hn hdb he hpl) fun σ H Q h => tCB2_of hs h
theorem x_f2 (hc : CallR X (.builtin id) r) (hs : Cb2 X.K r g) (hm : X.mg x = some (.builtin id)) (ha : PE X a (tE X.K w ea)) (hb : PE X b (tE X.K w eb)) (hg : Gl X x := by rfl) (hdb : (x == ("__debug__" : Str)) = false := by decide)
    (he : starEach [a, b] X.env = (false, eval a X.env) :: starEach [b] X.env := by rfl) (he2 : starEach [b] X.env = (false, eval b X.env) :: starEach [] X.env := by rfl) (hpl : (backTo pos (starEach [b] X.env)).any (·.1) = false := by rfl) : PE X (.Call (.Name x p) [a, b] [] pos) (tE X.K w (eBin g ea eb)) :=
  PE.of (pe_callBfun hc hg hm (pa_cons ha (pa_cons hb pa_nil he2) he) hdb he hpl) fun σ H Q h => tCB2_of hs h
theorem x_t1 (hc : CallR X (.type T) r) (hs : Cb1 X.K r f) (hm : X.mg x = none) (hv : bootBuiltins x = some (.type T)) (ha : PE X a (tE X.K w ea)) (hg : Gl X x := by rfl) (hn : x ≠ "__name__" := by decide) (hdb : (x == ("__debug__" : Str)) = false := by decide)
    (he : starEach [a] X.env = (false, eval a X.env) :: starEach [] X.env := by rfl) (hpl : (backTo pos (starEach [] X.env)).any (·.1) = false := by rfl) : PE X (.Call (.Name x p) [a] [] pos) (tE X.K w (eUn f ea)) :=
  PE.of (pe_callTy hc hg hm hv (pa_cons ha pa_nil he) hn hdb he hpl) fun σ H Q h => tCB1_of hs h
theorem x_t1V (i : Nat) (hc : CallR X (.type T) r) (hs : Cb1 X.K r f) (hm : X.mg x = none) (hv : bootBuiltins x = some (.type T)) (hg : Gl X x := by rfl) (hN : X.N[i]? = some n := by rfl) (hvs : Vis X.env.scope n := by first | exact Or.inl rfl | exact Or.inr (Or.inl rfl) | exact Or.inr (Or.inr rfl))
    (hn : x ≠ "__name__" := by decide) (hdb : (x == ("__debug__" : Str)) = false := by decide) (hd : (n == ("__debug__" : Str)) = false := by decide) (hcd : (n == ("__classdict__" : Str)) = false := by decide) : PE X (.Call (.Name x p) [.Name n apos] [] pos) (tE X.K w (eV1 f i)) :=
  PE.of (pe_callTy hc hg hm hv (pa_cons (pe_var hN hvs hd hcd) pa_nil) hn hdb) fun σ H Q h => tCB1V_of hs h
end

/-! ### their trees -/
def fLen : D → Option R1 := fun x => match x with
  | .tup ds => some (.int ds.length, false)
  | .lst ds => some (.int ds.length, false)
  | .scr ns => some (.int ns.length, false)
  | _ => none
def fInt : D → Option R1 := fun x => match x with
  | .int i => some (.int i, false)
  | .bl k => some (.int (if k then 1 else 0), false)
  | _ => none
def fAbs : D → Option R1 := fun x => match x with
  | .int i => some (.int (if i < 0 then -i else i), false)
  | _ => none
def fTuple : D → Option R1 := fun x => match x with
  | .tup ds => some (.tup ds, false)
  | .lst ds => some (.tup ds, false)
  | .scr ns => some (.tup (ns.map .int), false)
  | _ => none
def fList : D → Option R1 := fun x => match x with
  | .tup ds => some (.lst ds, true)
  | .lst ds => some (.lst ds, true)
  | .scr ns => some (.lst (ns.map .int), true)
  | _ => none
def D.ints? : List D → Option (List Int)
  | [] => some []
  | .int i :: r => (D.ints? r).map (i :: ·)
  | _ :: _ => none
def fSum : D → Option R1 := fun x => match x with
  | .lst ds => (D.ints? ds).map fun ns => (.int ns.sum, false)
  | _ => none
def fMax2 : D → D → Option R1 := fI0 fun i j => .int (if j > i then j else i)
def fMin2 : D → D → Option R1 := fI0 fun i j => .int (if j < i then j else i)
def fGcd : D → D → Option R1 := fI0 fun i j => .int (Nat.gcd i.natAbs j.natAbs : Nat)
section
variable {K : PySem.W.Frag}
theorem ints_dq (M : Hp) : ∀ ns : List Int, DqAll K M (ns.map V.int) (ns.map .int)
  | [] => .nil
  | n :: ns => .cons (.int n) (ints_dq M ns)
theorem ints?_of {M : Hp} : ∀ {ds : List D} {vs : List V} {ns : List Int}, DqAll K M vs ds → D.ints? ds = some ns → vs = ns.map V.int
  | [], _, _, .nil, h => by cases h; rfl
  | .int i :: r, _, ns, .cons h1 h2, h => by
    cases h1
    have h' : (D.ints? r).map (i :: ·) = some ns := h
    cases e : D.ints? r with
    | none => rw [e] at h'; cases h'
    | some ms =>
      rw [e] at h'
      cases h'
      rw [ints?_of h2 e]
      rfl
  | .non :: _, _, _, _, h => by cases h
  | .bl _ :: _, _, _, _, h => by cases h
  | .str _ :: _, _, _, _, h => by cases h
  | .tup _ :: _, _, _, _, h => by cases h
  | .lst _ :: _, _, _, _, h => by cases h
  | .scr _ :: _, _, _, _, h => by cases h
  | .exc _ _ :: _, _, _, _, h => by cases h
theorem cb_len : Cb1 K (fun xs H Q => ∃ x n, xs = [x] ∧ LenV K x H n ∧ Q (.int n) H) fLen := by
  intro Xs st σ H x dx z Q rel hx hz hq
  cases dx with
  | tup ds =>
    cases hz
    have h := hx.dq (fun _ e => by cases e)
    cases h with
    | tup h1 q1 => exact ⟨_, _, rfl, .inr ⟨_, ex_t msk_ex h1, rfl⟩, by rw [dpAll_len q1]; exact hq _ H (Post.refl rel) (.old (.int _))⟩
  | lst ds =>
    cases hz
    obtain ⟨p, vs, rfl, h1, q1⟩ := hx.lst
    exact ⟨_, _, rfl, .inl ⟨_, SqL.of h1, rfl⟩, by rw [dpAll_len q1]; exact hq _ H (Post.refl rel) (.old (.int _))⟩
  | scr ns =>
    cases hz
    have h := hx.dq (fun _ e => by cases e)
    cases h with
    | scr h1 => exact ⟨_, _, rfl, .inl ⟨_, ex_l msk_ex h1, rfl⟩, by rw [List.length_map]; exact hq _ H (Post.refl rel) (.old (.int _))⟩
  | _ => cases hz
theorem cb_int : Cb1 K (fun xs H Q => (∃ i, xs = [.int i] ∧ Q (.int i) H) ∨ ∃ k, xs = [.bl k] ∧ Q (.int (if k then 1 else 0)) H) fInt := by
  intro Xs st σ H x dx z Q rel hx hz hq
  cases dx with
  | int i =>
    cases hz
    have h := hx.dq (fun _ e => by cases e)
    cases h
    exact .inl ⟨i, rfl, hq _ H (Post.refl rel) (.old (.int _))⟩
  | bl k =>
    cases hz
    have h := hx.dq (fun _ e => by cases e)
    cases h
    exact .inr ⟨k, rfl, hq _ H (Post.refl rel) (.old (.int _))⟩
  | _ => cases hz
theorem cb_abs : Cb1 K (fun xs H Q => ∃ i, xs = [.int i] ∧ Q (.int (if i < 0 then -i else i)) H) fAbs := by
  intro Xs st σ H x dx z Q rel hx hz hq
  cases dx with
  | int i =>
    cases hz
    have h := hx.dq (fun _ e => by cases e)
    cases h
    exact ⟨i, rfl, hq _ H (Post.refl rel) (.old (.int _))⟩
  | _ => cases hz
theorem cb_tuple : Cb1 K (fun xs H Q => ∃ p ys, xs = [.ref p] ∧ ((SqL K H p ys ∧ ∀ l, H l = none → Q (.ref l) (upd H l (.tup ys))) ∨ (SqT K H p ys ∧ Q (.ref p) H))) fTuple := by
  intro Xs st σ H x dx z Q rel hx hz hq
  cases dx with
  | tup ds =>
    cases hz
    have h := hx.dq (fun _ e => by cases e)
    cases h with
    | tup h1 q1 => exact ⟨_, _, rfl, .inr ⟨ex_t msk_ex h1, hq _ H (Post.refl rel) (.old (.tup h1 q1))⟩⟩
  | lst ds =>
    cases hz
    obtain ⟨p, vs, rfl, h1, q1⟩ := hx.lst
    exact ⟨_, _, rfl, .inl ⟨SqL.of h1, fun l hl => hq _ _ (rel_new rel hl) (val_newT rel hl q1)⟩⟩
  | scr ns =>
    cases hz
    have h := hx.dq (fun _ e => by cases e)
    cases h with
    | scr h1 => exact ⟨_, _, rfl, .inl ⟨ex_l msk_ex h1, fun l hl => hq _ _ (rel_new rel hl) (val_newT rel hl (ints_dq _ ns))⟩⟩
  | _ => cases hz
theorem cb_list : Cb1 K (fun xs H Q => ∃ p ys, xs = [.ref p] ∧ (SqL K H p ys ∨ SqT K H p ys) ∧ ∀ l, H l = none → Q (.ref l) (upd H l (.lst ys))) fList := by
  intro Xs st σ H x dx z Q rel hx hz hq
  cases dx with
  | tup ds =>
    cases hz
    have h := hx.dq (fun _ e => by cases e)
    cases h with
    | tup h1 q1 => exact ⟨_, _, rfl, .inr (ex_t msk_ex h1), fun l hl => hq _ _ (rel_new rel hl) (val_newL rel hl q1)⟩
  | lst ds =>
    cases hz
    obtain ⟨p, vs, rfl, h1, q1⟩ := hx.lst
    exact ⟨_, _, rfl, .inl (SqL.of h1), fun l hl => hq _ _ (rel_new rel hl) (val_newL rel hl q1)⟩
  | scr ns =>
    cases hz
    have h := hx.dq (fun _ e => by cases e)
    cases h with
    | scr h1 => exact ⟨_, _, rfl, .inl (ex_l msk_ex h1), fun l hl => hq _ _ (rel_new rel hl) (val_newL rel hl (ints_dq _ ns))⟩
  | _ => cases hz
theorem cb_sum : Cb1 K (rSum K) fSum := by
  intro Xs st σ H x dx z Q rel hx hz hq
  cases dx with
  | lst ds =>
    have hz' : (D.ints? ds).map (fun ns => ((D.int ns.sum, false) : R1)) = some z := hz
    cases e : D.ints? ds with
    | none => rw [e] at hz'; cases hz'
    | some ns =>
      rw [e] at hz'
      cases hz'
      obtain ⟨p, vs, rfl, h1, q1⟩ := hx.lst
      rw [ints?_of q1 e] at h1
      exact ⟨p, ns, rfl, SqL.of h1, hq _ H (Post.refl rel) (.old (.int _))⟩
  | _ => cases hz
theorem cb_i2 {g : Int → Int → D} {gv : Int → Int → V} (hg : ∀ H i j, Dq K H (gv i j) (g i j)) : Cb2 K (fun xs H Q => ∃ i j, xs = [.int i, .int j] ∧ Q (gv i j) H) (fI0 g) := by
  intro Xs st σ H x y dx dy z Q rel hx hy hz hq
  unfold fI0 at hz
  split at hz
  · next i j =>
    cases hz
    cases hx
    cases hy
    exact ⟨i, j, rfl, hq _ H (Post.refl rel) (.old (hg _ i j))⟩
  · cases hz
end

/-! ### isinstance -/
/-- the name of a tree's type -/
def D.ty : D → String
  | .non => "NoneType"
  | .bl _ => "bool"
  | .int _ => "int"
  | .str _ => "str"
  | .tup _ => "tuple"
  | .lst _ => "list"
  | .scr _ => "list"
  | .exc _ _ => ""
/-- none of those by their classes -/
def D.plain : D → Bool
  | .exc _ _ => false
  | .scr _ => false
  | _ => true
inductive Ty where
  | int | bool | str | tuple | list
def Ty.nm : Ty → String
  | .int => "int"
  | .bool => "bool"
  | .str => "str"
  | .tuple => "tuple"
  | .list => "list"
def D.is : D → Ty → Bool
  | .bl _, .bool => true
  | .bl _, .int => true
  | .int _, .int => true
  | .str _, .str => true
  | .tup _, .tuple => true
  | .lst _, .list => true
  | .scr _, .list => true
  | _, _ => false
theorem D.is_kit {d : D} (hd : d.plain = true) (T : Ty) : kitB d.ty T.nm = some (d.is T) := by
  cases d <;> first | (cases T <;> (simp only [D.ty, Ty.nm, D.is]; decide +kernel)) | cases hd
theorem ty_of {K : PySem.W.Frag} {H : Hp} {v : V} {d : D} (h : Dq K H v d) (hd : d.plain = true) : TyX K H v (.type d.ty) := by
  cases h with
  | non => exact .base .non
  | bl b => exact .base (.bl b)
  | int i => exact .base (.int i)
  | str s => exact .base (.str s)
  | lst h1 _ => exact .base (.lst h1)
  | tup h1 _ =>
    rcases h1 with (h1 | ⟨o, h1⟩) | ⟨o, its, n, h1, h2, _⟩
    · exact .base (.tup h1)
    · exact .fTuple h1
    · exact .kTuple h1 h2
  | scr h1 => cases hd
  | exc _ _ _ _ => cases hd
theorem ty_ofB {K : PySem.W.Frag} {Xs : List Addr} {st : List Sl} {σ : L2.St} {H : Hp} {v : V} {d : D} (h : Bq K Xs st σ H v d) (hd : d.plain = true) : TyX K H v (.type d.ty) := by
  rcases h with h | ⟨p, vs, ds, rfl, rfl, h1, _⟩
  · exact ty_of (dp_mono msk_ex h) hd
  · exact .base (.lst h1)
def isAny (d : D) : List Ty → Bool
  | [] => false
  | T :: r => d.is T || isAny d r
theorem kitAny_of {K : PySem.W.Frag} {d : D} (hd : d.plain = true) : ∀ Ts : List Ty, PySem.W.kitAny K (.type d.ty) (Ts.map fun T => .type T.nm) = some (isAny d Ts)
  | [] => kitAny_nil
  | T :: r => kitAny_cons (kit_ty (D.is_kit hd T)) (fun e => by rw [kitAny_of hd r]; show some (isAny d r) = some (d.is T || isAny d r); rw [e, Bool.false_or]) (fun e => by show (d.is T || isAny d r) = true; rw [e]; rfl)
def fIsi (Ts : List Ty) : D → Option R1 := fun d => if d.plain = true then some (.bl (isAny d Ts), false) else none
section
variable {X : Cx} {w : Wi} {n : Str} {p pos apos tpos : Pos} {a : Expr} {ea : EvE}
theorem bltn_ty {T : Ty} {tpos : Pos} {nm : Str} (hm : X.mg nm = none) (hv : bootBuiltins nm = some (.type T.nm)) (hg : Gl X nm := by rfl) (hn : nm ≠ "__name__" := by decide) (hd : (nm == ("__debug__" : Str)) = false := by decide) : PE X (.Name nm tpos) (tC (.ty T.nm)) := pe_bltn hg hm hv rfl hn hd
theorem x_isi1 (T : Ty) {b : Expr} (hb : PE X b (tC (.ty T.nm))) (hm : X.mg "isinstance" = none) (ha : PE X a (tE X.K w ea)) (hg : Gl X "isinstance" := by rfl)
    (he : starEach [a, b] X.env = (false, eval a X.env) :: starEach [b] X.env := by rfl) (he2 : starEach [b] X.env = (false, eval b X.env) :: starEach [] X.env := by rfl) (hpl : (backTo pos (starEach [b] X.env)).any (·.1) = false := by rfl) : PE X (.Call (.Name "isinstance" p) [a, b] [] pos) (tE X.K w (eUn (fIsi [T]) ea)) :=
  PE.of (pe_callB call_isi hg hm (by decide +kernel) (pa_cons ha (pa_cons hb pa_nil he2) he) (by decide) (by decide) he hpl) fun σ H Q h => by
    obtain ⟨Xs, st, rel, h⟩ := h
    refine tE_seq rel h fun x H1 rx st1 p1 v1 h1 => ?_
    unfold fIsi at h1
    by_cases hd : rx.1.plain = true
    · rw [if_pos hd] at h1
      refine ⟨x, _, _, _, _, rfl, .ty _, ty_of (dp_mono msk_ex v1.dp) hd, kit_ty (D.is_kit hd T), ?_⟩
      refine h1 _ H1 p1 (.old ?_)
      show Dq _ _ _ (D.bl (rx.1.is T || false))
      rw [Bool.or_false]
      exact .bl _
    · rw [if_neg hd] at h1
      exact h1.elim
theorem x_isi1V (i : Nat) (T : Ty) {b : Expr} (hb : PE X b (tC (.ty T.nm))) (hm : X.mg "isinstance" = none) (hg : Gl X "isinstance" := by rfl) (hN : X.N[i]? = some n := by rfl) (hvs : Vis X.env.scope n := by first | exact Or.inl rfl | exact Or.inr (Or.inl rfl) | exact Or.inr (Or.inr rfl))
    (hd : (n == ("__debug__" : Str)) = false := by decide) (hcd : (n == ("__classdict__" : Str)) = false := by decide)
    (he2 : starEach [b] X.env = (false, eval b X.env) :: starEach [] X.env := by rfl) (hpl : (backTo pos (starEach [b] X.env)).any (·.1) = false := by rfl) : PE X (.Call (.Name "isinstance" p) [.Name n apos, b] [] pos) (tE X.K w (eV1 (fIsi [T]) i)) :=
  PE.of (pe_callB call_isi hg hm (by decide +kernel) (pa_cons (pe_var hN hvs hd hcd) (pa_cons hb pa_nil he2)) (by decide) (by decide) (by rfl) hpl) fun σ H Q h => by
    obtain ⟨Xs, st, rel, h⟩ := h
    unfold eV1 at h
    split at h
    · exact h.elim
    · next d e =>
      obtain ⟨v, e1, e2⟩ := slD_at rel e
      unfold fIsi at h
      by_cases hd : d.plain = true
      · rw [if_pos hd] at h
        refine ⟨v, e1, v, _, _, _, _, rfl, .ty _, ty_ofB e2 hd, kit_ty (D.is_kit hd T), ?_⟩
        refine h _ H (Post.refl rel) (.old ?_)
        show Dq _ _ _ (D.bl (d.is T || false))
        rw [Bool.or_false]
        exact .bl _
      · rw [if_neg hd] at h
        exact h.elim
theorem paired_ty : ∀ Ts : List Ty, Paired ClsV (Ts.map fun T => V.ty T.nm) (Ts.map fun T => Value.type T.nm)
  | [] => .nil
  | T :: r => .cons (.ty _) (paired_ty r)
/-- isinstance(a, (T1, T2)) -/
theorem x_isi2V (i : Nat) (T1 T2 : Ty) {b c : Expr} {k : Nat} (hb : PE X b (tC (.ty T1.nm))) (hc : PE X c (tC (.ty T2.nm))) (hm : X.mg "isinstance" = none) (hg : Gl X "isinstance" := by rfl) (hN : X.N[i]? = some n := by rfl) (hvs : Vis X.env.scope n := by first | exact Or.inl rfl | exact Or.inr (Or.inl rfl) | exact Or.inr (Or.inr rfl))
    (hd : (n == ("__debug__" : Str)) = false := by decide) (hcd : (n == ("__classdict__" : Str)) = false := by decide)
    (he2 : starEach [b, c] X.env = (false, eval b X.env) :: starEach [c] X.env := by rfl) (he3 : starEach [c] X.env = (false, eval c X.env) :: starEach [] X.env := by rfl) : PE X (.Call (.Name "isinstance" p) [.Name n apos, .Tuple [b, c] k tpos] [] pos) (tE X.K w (eV1 (fIsi [T1, T2]) i)) :=
  PE.of (pe_callB call_isiT hg hm (by decide +kernel) (pa_cons (pe_var hN hvs hd hcd) (pa_cons (pe_tup (pa_cons hb (pa_cons hc pa_nil he3) he2)) pa_nil)) (by decide) (by decide)) fun σ H Q h => by
    obtain ⟨Xs, st, rel, h⟩ := h
    unfold eV1 at h
    split at h
    · exact h.elim
    · next d e =>
      obtain ⟨v, e1, e2⟩ := slD_at rel e
      refine ⟨v, e1, (by show 2 ≤ sizeLine; decide), fun q hq => ?_⟩
      unfold fIsi at h
      have hd : d.plain = true := by
        cases hp : d.plain with
        | true => rfl
        | false => rw [if_neg (by rw [hp]; decide)] at h; exact h.elim
      rw [if_pos hd] at h
      have P := rel_new (o := .tup [V.ty T1.nm, V.ty T2.nm]) rel hq
      have ty : TyX X.K (upd H q (.tup [V.ty T1.nm, V.ty T2.nm])) v (.type d.ty) := by
        rcases e2 with e2 | ⟨p, vs, ds, rfl, rfl, h1, _⟩
        · exact ty_of (dp_mono msk_ex (dp_mono P.ex e2)) hd
        · exact .base (.lst (by rw [upd_ne (ne_of_none h1 hq)]; exact h1))
      exact ⟨v, q, _, _, _, _, rfl, upd_same, paired_ty [T1, T2], ty, kitAny_of hd [T1, T2], h _ _ P (.old (.bl _))⟩
end
end TX

end

section
set_option Elab.async false
set_option linter.all false
set_option maxRecDepth 100000
set_option maxHeartbeats 2000000
namespace TX
open PySem L2 Evl PyProof.Rows

/-! ### statements -/
inductive SO where
  | nx (st : List Sl) | rt (r : R1) (st : List Sl) | bk (st : List Sl) | ct (st : List Sl) | ex (c : Nat) (d : D) (st : List Sl) | no
abbrev EvS := List Sl → SO
/-- B: the heap at the def's entry; P: the slots of the lists that the caller owns -/
structure RelS (K : PySem.W.Frag) (Xs : List Addr) (P : List Nat) (B : Hp) (st : List Sl) (σ : L2.St) (H : Hp) : Prop where
  rel : Rel K Xs st σ H
  own : ∀ (i : Nat) (ds : List D) (p : Addr), i ∉ P → st[i]? = some (.ow ds) → σ[i]? = some (some (.ref p)) → B p = none
  dom : ∀ a, H a = none → B a = none
structure PostS (K : PySem.W.Frag) (Xs : List Addr) (P : List Nat) (B : Hp) (st : List Sl) (σ : L2.St) (H : Hp) (st' : List Sl) (σ' : L2.St) (H' : Hp) : Prop where
  rel : RelS K Xs P B st' σ' H'
  ex : Ex (vis Xs st σ H) (vis Xs st' σ' H')
  xs : ∀ x ∈ Xs, H' x = H x
  dom : ∀ a, H' a = none → H a = none
  keep : ∀ i ∈ P, σ'[i]? = σ[i]?
theorem PostS.refl {K : PySem.W.Frag} {Xs : List Addr} {P : List Nat} {B : Hp} {st : List Sl} {σ : L2.St} {H : Hp} (r : RelS K Xs P B st σ H) : PostS K Xs P B st σ H st σ H := ⟨r, Ex.refl _, fun _ _ => rfl, fun _ h => h, fun _ _ => rfl⟩
theorem PostS.trans {K : PySem.W.Frag} {Xs : List Addr} {P : List Nat} {B : Hp} {st st1 st2 : List Sl} {σ σ1 σ2 : L2.St} {H H1 H2 : Hp} (a : PostS K Xs P B st σ H st1 σ1 H1) (b : PostS K Xs P B st1 σ1 H1 st2 σ2 H2) : PostS K Xs P B st σ H st2 σ2 H2 :=
  ⟨b.rel, a.ex.trans b.ex, fun x h => (b.xs x h).trans (a.xs x h), fun x h => a.dom x (b.dom x h), fun i h => (b.keep i h).trans (a.keep i h)⟩
/-- what is wanted of an exception -/
def exS (K : PySem.W.Frag) (w : Wi) (Xs : List Addr) (P : List Nat) (B : Hp) (st : List Sl) (σ : L2.St) (H : Hp) (c : Nat) (d : D) (st' : List Sl) : Prop :=
  ∀ (dx : Addr) (v : V) (σ' : L2.St) (H' : Hp), PostS K Xs P B st σ H st' σ' H' → vis Xs st' σ' H' dx = some (.xd [(fV, v)]) → Dq K (vis Xs st' σ' H') v d → w.W (.ref (w.cl c)) (some dx) σ' H'
/-- a value that a def hands back -/
structure ValR (K : PySem.W.Frag) (Xs : List Addr) (B : Hp) (st' : List Sl) (σ' : L2.St) (H' : Hp) (v : V) (r : R1) : Prop where
  dp : Dq K (vis Xs st' σ' H') v r.1
  fr : r.2 = true → ∃ p vs ds, v = .ref p ∧ r.1 = .lst ds ∧ B p = none ∧ H' p = some (.lst vs) ∧ DqAll K (vis (p :: Xs) st' σ' H') vs ds ∧ Rel K (p :: Xs) st' σ' H'
def RdS (K : PySem.W.Frag) (w : Wi) (Xs : List Addr) (P : List Nat) (B : Hp) (st : List Sl) (σ : L2.St) (H : Hp) (Dn : Ends) (o : SO) : Prop := match o with
  | .nx st' => ∀ σ' H', PostS K Xs P B st σ H st' σ' H' → Dn.nx σ' H'
  | .rt r st' => ∀ v σ' H', PostS K Xs P B st σ H st' σ' H' → ValR K Xs B st' σ' H' v r → Dn.rt v H'
  | .bk st' => ∀ σ' H', PostS K Xs P B st σ H st' σ' H' → Dn.bk σ' H'
  | .ct st' => ∀ σ' H', PostS K Xs P B st σ H st' σ' H' → Dn.ct σ' H'
  | .ex c d st' => exS K w Xs P B st σ H c d st'
  | .no => False
def tS (K : PySem.W.Frag) (w : Wi) (P : List Nat) (ev : EvS) : TS := fun Dn σ H => ∃ Xs B st, RelS K Xs P B st σ H ∧ RdS K w Xs P B st σ H Dn (ev st)
section
variable {K : PySem.W.Frag} {w : Wi} {Xs : List Addr} {P : List Nat} {B : Hp} {st st1 : List Sl} {σ σ1 : L2.St} {H H1 : Hp} {Dn : Ends}
/-- later on -/
theorem RdS.on {o : SO} (p : PostS K Xs P B st σ H st1 σ1 H1) (h : RdS K w Xs P B st σ H Dn o) : RdS K w Xs P B st1 σ1 H1 Dn o := by
  cases o with
  | nx s => exact fun σ' H' q => h σ' H' (p.trans q)
  | rt r s => exact fun v σ' H' q => h v σ' H' (p.trans q)
  | bk s => exact fun σ' H' q => h σ' H' (p.trans q)
  | ct s => exact fun σ' H' q => h σ' H' (p.trans q)
  | ex c d s => exact fun dx v σ' H' q => h dx v σ' H' (p.trans q)
  | no => exact h
/-- an expression in a statement: its state -/
theorem PostS.of {st st' : List Sl} {σ : L2.St} {H H' : Hp} (r : RelS K Xs P B st σ H) (p : Post K Xs st σ H st' H') : PostS K Xs P B st σ H st' σ H' :=
  ⟨⟨p.rel, fun i ds a hi h1 h2 => by
    obtain ⟨ds', h3⟩ := p.ol i ds h1
    exact r.own i ds' a hi h3 h2, fun a h => r.dom a (p.dom a h)⟩, p.ex, p.xs, p.dom, fun _ _ => rfl⟩
end
end TX

end

section
set_option Elab.async false
set_option linter.all false
set_option maxRecDepth 100000
set_option maxHeartbeats 2000000
namespace TX
open PySem L2 Evl PyProof.Rows

theorem ownd_cons_sub {s : Sl} {x : Option V} {st : List Sl} {σ : L2.St} : (ownd st σ).Sublist (ownd (s :: st) (x :: σ)) := by
  cases s with
  | un => exact List.Sublist.refl _
  | pu d => exact List.Sublist.refl _
  | ow ds =>
    cases x with
    | none => exact List.Sublist.refl _
    | some w =>
      cases w with
      | ref q => exact List.sublist_cons_self _ _
      | _ => exact List.Sublist.refl _
theorem ownd_set_sub {s' : Sl} (hs' : ∀ ds, s' ≠ .ow ds) : ∀ {st : List Sl} {σ : L2.St} {i : Nat} {v : Option V}, (ownd (st.set i s') (σ.set i v)).Sublist (ownd st σ)
  | [], σ, i, v => by rw [List.set_nil]; unfold ownd; exact List.Sublist.refl _
  | s :: st, [], i, v => by rw [List.set_nil, ownd_nil_r, ownd_nil_r]; exact List.Sublist.refl _
  | s :: st, x :: σ, 0, v => by
    show (ownd (s' :: st) (v :: σ)).Sublist _
    have e1 : ownd (s' :: st) (v :: σ) = ownd st σ := by
      cases s' with
      | ow ds => exact absurd rfl (hs' ds)
      | un => rfl
      | pu d => rfl
    rw [e1]
    exact ownd_cons_sub
  | s :: st, x :: σ, i + 1, v => by
    have ih := ownd_set_sub hs' (st := st) (σ := σ) (i := i) (v := v)
    show (ownd (s :: st.set i s') (x :: σ.set i v)).Sublist (ownd (s :: st) (x :: σ))
    cases s with
    | un => exact ih
    | pu d => exact ih
    | ow ds =>
      cases x with
      | none => exact ih
      | some w =>
        cases w with
        | ref q => exact ih.cons_cons q
        | _ => exact ih
theorem ownd_set_own {ds : List D} {p : Addr} : ∀ {st : List Sl} {σ : L2.St} {i : Nat}, i < st.length → i < σ.length → (ownd (st.set i (.ow ds)) (σ.set i (some (.ref p)))).Perm (p :: ownd (st.set i .un) (σ.set i (some (.ref p))))
  | [], σ, i, h, _ => by simp at h
  | s :: st, [], i, _, h => by simp at h
  | s :: st, x :: σ, 0, _, _ => List.Perm.refl _
  | s :: st, x :: σ, i + 1, h1, h2 => by
    have ih := ownd_set_own (ds := ds) (p := p) (st := st) (σ := σ) (i := i) (by simpa using h1) (by simpa using h2)
    show (ownd (s :: st.set i (.ow ds)) (x :: σ.set i (some (.ref p)))).Perm (p :: ownd (s :: st.set i .un) (x :: σ.set i (some (.ref p))))
    cases s with
    | un => exact ih
    | pu d => exact ih
    | ow es =>
      cases x with
      | none => exact ih
      | some w =>
        cases w with
        | ref q => exact (List.Perm.cons q ih).trans (List.Perm.swap p q _)
        | _ => exact ih
section
variable {K : PySem.W.Frag} {Xs : List Addr} {P : List Nat} {B : Hp} {st : List Sl} {σ : L2.St} {H : Hp}
theorem hid_sub {st' : List Sl} {σ' : L2.St} (h : (ownd st' σ').Sublist (ownd st σ)) : (hid Xs st' σ').Sublist (hid Xs st σ) := h.append_right Xs
/-- a slot takes a value, or is forgotten -/
theorem relS_set {i : Nat} {v : V} {s' : Sl} (r : RelS K Xs P B st σ H) (hi : i ∉ P) (hs : s' = .un ∨ ∃ d, s' = .pu d ∧ Dq K (vis Xs st σ H) v d) : PostS K Xs P B st σ H (st.set i s') (σ.set i (some v)) H := by
  have hno : ∀ ds, s' ≠ .ow ds := fun ds e => by
    rcases hs with h | ⟨d, h, _⟩
    · rw [h] at e; cases e
    · rw [h] at e; cases e
  have sub := hid_sub (Xs := Xs) (ownd_set_sub hno (st := st) (σ := σ) (i := i) (v := some v))
  have ex : Ex (vis Xs st σ H) (vis Xs (st.set i s') (σ.set i (some v)) H) := msk_sub fun a ha => sub.subset ha
  refine ⟨⟨⟨by rw [List.length_set, List.length_set]; exact r.rel.len, r.rel.nd.sublist sub, fun j d hj => ?_, fun j ds hj => ?_, r.rel.xs⟩, fun j ds p hp hj hp2 => ?_, r.dom⟩, ex, fun _ _ => rfl, fun _ h => h, fun j hj => ?_⟩
  · by_cases e : i = j
    · subst e
      have hlt : i < st.length := by
        have := (List.getElem?_eq_some_iff.mp hj).1
        rw [List.length_set] at this
        exact this
      rw [List.getElem?_set_self hlt] at hj
      cases hj
      rcases hs with h | ⟨d', h, q⟩
      · cases h
      · cases h
        exact ⟨v, List.getElem?_set_self (by rw [← r.rel.len]; exact hlt), dp_mono ex q⟩
    · rw [List.getElem?_set_ne e] at hj
      obtain ⟨u, q1, q2⟩ := r.rel.pu j d hj
      exact ⟨u, by rw [List.getElem?_set_ne e]; exact q1, dp_mono ex q2⟩
  · by_cases e : i = j
    · subst e
      have hlt : i < st.length := by
        have := (List.getElem?_eq_some_iff.mp hj).1
        rw [List.length_set] at this
        exact this
      rw [List.getElem?_set_self hlt] at hj
      cases hj
      exact absurd rfl (hno ds)
    · rw [List.getElem?_set_ne e] at hj
      obtain ⟨p, vs, q1, q2, q3⟩ := r.rel.ow j ds hj
      exact ⟨p, vs, by rw [List.getElem?_set_ne e]; exact q1, q2, dpAll_mono ex q3⟩
  · by_cases e : i = j
    · subst e
      have hlt : i < st.length := by
        have := (List.getElem?_eq_some_iff.mp hj).1
        rw [List.length_set] at this
        exact this
      rw [List.getElem?_set_self hlt] at hj
      cases hj
      exact absurd rfl (hno ds)
    · rw [List.getElem?_set_ne e] at hj hp2
      exact r.own j ds p hp hj hp2
  · exact List.getElem?_set_ne fun e => hi (by rw [e]; exact hj)
/-- a slot takes a new list -/
theorem relS_own {st0 : List Sl} {i : Nat} {p : Addr} {vs : List V} {ds : List D} {H0 : Hp} (r : RelS K Xs P B st σ H) (hi : i ∉ P) (hlt : i < st.length) (hB : B p = none) (h1 : H p = some (.lst vs)) (h2 : DqAll K (vis (p :: Xs) st σ H) vs ds) (h3 : Rel K (p :: Xs) st σ H) (h0 : Ex (vis Xs st0 σ H0) (vis (p :: Xs) st σ H)) (hx : ∀ x ∈ Xs, H x = H0 x) (hd : ∀ a, H a = none → H0 a = none) :
    PostS K Xs P B st0 σ H0 (st.set i (.ow ds)) (σ.set i (some (.ref p))) H := by
  have hlt' : i < σ.length := by rw [← r.rel.len]; exact hlt
  have pm : (hid Xs (st.set i (.ow ds)) (σ.set i (some (.ref p)))).Perm (p :: hid Xs (st.set i .un) (σ.set i (some (.ref p)))) := (ownd_set_own hlt hlt').append_right Xs
  have sub : (hid Xs (st.set i .un) (σ.set i (some (.ref p)))).Sublist (hid Xs st σ) := hid_sub (ownd_set_sub fun _ e => by cases e)
  have pm2 : (hid (p :: Xs) st σ).Perm (p :: hid Xs st σ) := List.perm_middle
  have nd2 : (p :: hid Xs st σ).Nodup := pm2.nodup_iff.mp h3.nd
  have ex : Ex (vis (p :: Xs) st σ H) (vis Xs (st.set i (.ow ds)) (σ.set i (some (.ref p))) H) := msk_sub fun a ha => by
    refine pm2.mem_iff.mpr ?_
    rcases List.mem_cons.mp (pm.mem_iff.mp ha) with e | e
    · exact List.mem_cons.mpr (.inl e)
    · exact List.mem_cons_of_mem _ (sub.subset e)
  refine ⟨⟨⟨by rw [List.length_set, List.length_set]; exact r.rel.len, pm.nodup_iff.mpr (nd2.sublist (sub.cons_cons p)), fun j d hj => ?_, fun j es hj => ?_, fun x h => h3.xs x (List.mem_cons_of_mem _ h)⟩, fun j es q hp hj hq => ?_, r.dom⟩, h0.trans ex, hx, hd, fun j hj => ?_⟩
  · by_cases e : i = j
    · subst e
      rw [List.getElem?_set_self hlt] at hj
      cases hj
    · rw [List.getElem?_set_ne e] at hj
      obtain ⟨u, q1, q2⟩ := h3.pu j d hj
      exact ⟨u, by rw [List.getElem?_set_ne e]; exact q1, dp_mono ex q2⟩
  · by_cases e : i = j
    · subst e
      rw [List.getElem?_set_self hlt] at hj
      cases hj
      exact ⟨p, vs, List.getElem?_set_self hlt', h1, dpAll_mono ex h2⟩
    · rw [List.getElem?_set_ne e] at hj
      obtain ⟨q, us, q1, q2, q3⟩ := h3.ow j es hj
      exact ⟨q, us, by rw [List.getElem?_set_ne e]; exact q1, q2, dpAll_mono ex q3⟩
  · by_cases e : i = j
    · subst e
      rw [List.getElem?_set_self hlt'] at hq
      cases hq
      exact hB
    · rw [List.getElem?_set_ne e] at hj hq
      exact r.own j es q hp hj hq
  · exact List.getElem?_set_ne fun e => hi (by rw [e]; exact hj)
/-- a list that a slot owns is written -/
theorem relS_write {i : Nat} {p : Addr} {vs vs' : List V} {ds ds' : List D} (r : RelS K Xs P B st σ H) (h1 : st[i]? = some (.ow ds)) (h2 : σ[i]? = some (some (.ref p))) (h3 : H p = some (.lst vs)) (h4 : DqAll K (vis Xs st σ H) vs' ds') :
    PostS K Xs P B st σ H (st.set i (.ow ds')) σ (upd H p (.lst vs')) := by
  have hp : p ∈ hid Xs st σ := List.mem_append_left _ (ownd_mem h1 h2)
  have ho : ownd (st.set i (.ow ds')) σ = ownd st σ := ownd_set_ow h1
  have hlt : i < st.length := (List.getElem?_eq_some_iff.mp h1).1
  have ev : vis Xs (st.set i (.ow ds')) σ (upd H p (.lst vs')) = vis Xs st σ H := by
    show msk (ownd (st.set i (.ow ds')) σ ++ Xs) _ = _
    rw [ho]
    exact msk_upd hp
  have nx : ∀ x ∈ Xs, x ≠ p := fun x hx e => by
    have nd := r.rel.nd
    have := (List.nodup_append.mp nd).2.2 p (ownd_mem h1 h2) x hx
    exact this e.symm
  refine ⟨⟨⟨by rw [List.length_set]; exact r.rel.len, by show (ownd _ _ ++ Xs).Nodup; rw [ho]; exact r.rel.nd, fun j d hj => ?_, fun j es hj => ?_, fun x hx => by rw [upd_ne (nx x hx)]; exact r.rel.xs x hx⟩, fun j es q hq hj hq2 => ?_, fun a ha => ?_⟩,
    by rw [ev]; exact Ex.refl _, fun x hx => upd_ne (nx x hx), fun a ha => ?_, fun _ _ => rfl⟩
  · have hj' : st[j]? = some (.pu d) := by
      by_cases e : i = j
      · subst e
        rw [List.getElem?_set_self hlt] at hj
        cases hj
      · rw [List.getElem?_set_ne e] at hj
        exact hj
    rw [ev]
    exact r.rel.pu j d hj'
  · rw [ev]
    by_cases e : i = j
    · subst e
      rw [List.getElem?_set_self hlt] at hj
      cases hj
      exact ⟨p, vs', h2, upd_same, h4⟩
    · rw [List.getElem?_set_ne e] at hj
      obtain ⟨q, us, q1, q2, q3⟩ := r.rel.ow j es hj
      refine ⟨q, us, q1, ?_, q3⟩
      rw [upd_ne]
      · exact q2
      · intro z
        subst z
        -- two slots with one address
        have nd : (ownd st σ).Nodup := (List.nodup_append.mp r.rel.nd).1
        have pm := ownd_free (d := .non) h1 h2
        have nd2 : (q :: ownd (st.set i (.pu .non)) σ).Nodup := pm.nodup_iff.mp nd
        exact (List.nodup_cons.mp nd2).1 (ownd_mem (i := j) (ds := es) (by rw [List.getElem?_set_ne e]; exact hj) q1)
  · by_cases e : i = j
    · subst e
      exact r.own i ds q hq h1 hq2
    · rw [List.getElem?_set_ne e] at hj
      exact r.own j es q hq hj hq2
  · by_cases e : a = p
    · rw [e, upd_same] at ha; cases ha
    · rw [upd_ne e] at ha; exact r.dom a ha
  · by_cases e : a = p
    · rw [e, upd_same] at ha; cases ha
    · rw [upd_ne e] at ha; exact ha
end

/-! ### blocks -/
def sSkip : EvS := fun st => .nx st
def sSeq (a b : EvS) : EvS := fun st => match a st with
  | .nx st1 => b st1
  | o => o
section
variable {X : Cx} {w : Wi} {P : List Nat} {s : Stmt} {rest : List Stmt} {a b : EvS}
theorem xs_nil : PSs X [] (tS X.K w P sSkip) := PSs.of pss_nil fun Dn σ H h => by
  obtain ⟨Xs, B, st, r, h⟩ := h
  exact h σ H (PostS.refl r)
theorem xs_cons (h1 : PS X s (tS X.K w P a)) (h2 : PSs X rest (tS X.K w P b)) : PSs X (s :: rest) (tS X.K w P (sSeq a b)) := PSs.of (pss_cons h1 h2) fun Dn σ H h => by
  obtain ⟨Xs, B, st, r, h⟩ := h
  refine ⟨Xs, B, st, r, ?_⟩
  unfold sSeq at h
  cases e : a st with
  | nx st1 =>
    rw [e] at h
    exact fun σ' H' p => ⟨Xs, B, st1, p.rel, h.on p⟩
  | rt v st1 => rw [e] at h; exact h
  | bk st1 => rw [e] at h; exact h
  | ct st1 => rw [e] at h; exact h
  | ex c d st1 => rw [e] at h; exact h
  | no => rw [e] at h; exact h
theorem xs_one (h1 : PS X s (tS X.K w P a)) : PSs X [s] (tS X.K w P a) := pss_one h1
end

/-! ### an expression, then a statement's rest -/
def O.toS {α : Type} (o : O α) (f : α → List Sl → SO) : SO := match o with
  | .ok a st => f a st
  | .ex c d st => .ex c d st
  | .no => .no
section
variable {K : PySem.W.Frag} {w : Wi} {Xs : List Addr} {P : List Nat} {B : Hp} {st : List Sl} {σ : L2.St} {H : Hp} {Dn : Ends}
theorem exS_of {c : Nat} {d : D} {s : List Sl} (r : RelS K Xs P B st σ H) (h : exS K w Xs P B st σ H c d s) : exW K w Xs st σ H c d s := fun dx v H' p e q => h dx v σ H' (.of r p) e q
theorem tE_S {ev : EvE} {f : R1 → List Sl → SO} {Q : VK} (r : RelS K Xs P B st σ H) (h : RdS K w Xs P B st σ H Dn ((ev st).toS f))
    (hq : ∀ v H1 z st1, Post K Xs st σ H st1 H1 → PostS K Xs P B st σ H st1 σ H1 → Val K Xs σ H st1 H1 v z → RdS K w Xs P B st σ H Dn (f z st1) → Q v H1) : tE K w ev σ H Q := by
  refine ⟨Xs, st, r.rel, ?_⟩
  cases e : ev st with
  | ok z st1 =>
    rw [e] at h
    exact fun v H1 p q => hq v H1 z st1 p (.of r p) q h
  | ex c d st1 =>
    rw [e] at h
    exact exS_of r h
  | no =>
    rw [e] at h
    exact h
theorem tA_S {ev : EvA} {f : List D → List Sl → SO} {Q : List V → Hp → Prop} (r : RelS K Xs P B st σ H) (h : RdS K w Xs P B st σ H Dn ((ev st).toS f))
    (hq : ∀ vs H1 ds st1, Post K Xs st σ H st1 H1 → PostS K Xs P B st σ H st1 σ H1 → DqAll K (vis Xs st1 σ H1) vs ds → RdS K w Xs P B st σ H Dn (f ds st1) → Q vs H1) : tA K w ev σ H Q := by
  refine ⟨Xs, st, r.rel, ?_⟩
  cases e : ev st with
  | ok z st1 =>
    rw [e] at h
    exact fun v H1 p q => hq v H1 z st1 p (.of r p) q h
  | ex c d st1 =>
    rw [e] at h
    exact exS_of r h
  | no =>
    rw [e] at h
    exact h
theorem tT_S {ev : EvT} {f : Bool → List Sl → SO} {Q : Bool → Hp → Prop} (r : RelS K Xs P B st σ H) (h : RdS K w Xs P B st σ H Dn ((ev st).toS f))
    (hq : ∀ b H1 st1, PostS K Xs P B st σ H st1 σ H1 → RdS K w Xs P B st σ H Dn (f b st1) → Q b H1) : tT K w ev σ H Q := by
  refine ⟨Xs, st, r.rel, ?_⟩
  cases e : ev st with
  | ok z st1 =>
    rw [e] at h
    exact fun H1 p => hq z H1 st1 (.of r p) h
  | ex c d st1 =>
    rw [e] at h
    exact exS_of r h
  | no =>
    rw [e] at h
    exact h
end

/-! ### assignments -/
/-- a name takes a value; a new list is owned -/
def putS (P : List Nat) (i : Nat) (z : R1) (st : List Sl) : SO := if i ∈ P ∨ st.length ≤ i then .no else match z with
  | (.lst ds, true) => .nx (st.set i (.ow ds))
  | (d, _) => .nx (st.set i (.pu d))
def sSet (P : List Nat) (i : Nat) (e : EvE) : EvS := fun st => (e st).toS (putS P i)
section
variable {X : Cx} {w : Wi} {P : List Nat} {pos : Pos}
theorem put_of {K : PySem.W.Frag} {Xs : List Addr} {B : Hp} {st st1 : List Sl} {σ : L2.St} {H H1 : Hp} {Dn : Ends} {i : Nat} {v : V} {z : R1} (r : RelS K Xs P B st σ H) (p1 : Post K Xs st σ H st1 H1) (v1 : Val K Xs σ H st1 H1 v z) (h : RdS K w Xs P B st σ H Dn (putS P i z st1)) : Dn.nx (σ.set i (some v)) H1 := by
  have p := PostS.of r p1
  unfold putS at h
  split at h
  · exact h.elim
  · next hc =>
    have hi : i ∉ P := fun q => hc (.inl q)
    have hl : i < st1.length := Nat.lt_of_not_le fun q => hc (.inr q)
    split at h
    · next ds =>
      obtain ⟨q, vs, es, rfl, e2, e3, e4, e5, e6⟩ := v1.fr rfl
      cases e2
      refine h _ _ (relS_own p.rel hi hl (r.dom q e3) e4 e5 e6 (fun a o ha => ?_) p1.xs p1.dom)
      have hm := msk_some (p1.ex a o ha)
      have aq : a ≠ q := fun z => by rw [z] at ha; have := (msk_some ha).2; rw [e3] at this; cases this
      show msk (ownd st1 σ ++ q :: Xs) H1 a = some o
      rw [msk_out]
      · exact hm.2
      · intro hx
        rcases List.mem_append.mp hx with hx | hx
        · exact hm.1 (List.mem_append_left _ hx)
        · rcases List.mem_cons.mp hx with hx | hx
          · exact aq hx
          · exact hm.1 (List.mem_append_right _ hx)
    · exact h _ _ (p.trans (relS_set p.rel hi (.inr ⟨_, rfl, v1.dp⟩)))
theorem xs_set (i : Nat) {x : Str} {e : Expr} {ev : EvE} {pos' : Pos} (he : PE X e (tE X.K w ev)) (hN : X.N.Nodup) (hi : X.N[i]? = some x := by rfl) (hx : Loc X.env.scope x := by first | exact Or.inl rfl | exact Or.inr rfl) (hs : swapsWith e (some (.Name x pos')) pos.line X.env = pure false := by rfl)
    (hf : X.fn x = true ∨ X.env.scope.names.lookup x = some .local := by first | exact .inl rfl | exact .inr rfl | assumption) : PS X (.Assign [.Name x pos'] e pos) (tS X.K w P (sSet P i ev)) :=
  PS.of (ps_set hN hi hx he hs hf) fun Dn σ H h => by
    obtain ⟨Xs, B, st, r, h⟩ := h
    exact tE_S r h fun v H1 z st1 p1 _ v1 h1 => put_of r p1 v1 h1
/-- a, b = x, y: two names of the def's own -/
def sPar (P : List Nat) (i j : Nat) (a : EvA) : EvS := fun st => (a st).toS fun ds st1 => match ds with
  | [d, e] => if i ∈ P ∨ j ∈ P then .no else .nx ((st1.set i (.pu d)).set j (.pu e))
  | _ => .no
theorem xs_par (i j : Nat) {x y : Str} {a b : Expr} {ev : EvA} {px py pt : Pos} {kt k2 : Nat} {pt2 : Pos} (ha : PA X [a, b] (tA X.K w ev)) (hc : X.calm = true) (hN : X.N.Nodup) (hi : X.N[i]? = some x := by rfl) (hj : X.N[j]? = some y := by rfl) (hij : i ≠ j := by decide)
    (hx : X.env.scope.names.lookup x = some .local := by rfl) (hy : X.env.scope.names.lookup y = some .local := by rfl)
    (hw : swappedStores [.Tuple [.Name x px, .Name y py] kt pt] (.Tuple [a, b] k2 pt2) X.env = pure (some [x, y]) := by rfl)
    (hs : swapsWithSole [.Tuple [.Name x px, .Name y py] kt pt] (.Tuple [a, b] k2 pt2) pos.line X.env = pure false := by rfl) :
    PS X (.Assign [.Tuple [.Name x px, .Name y py] kt pt] (.Tuple [a, b] k2 pt2) pos) (tS X.K w P (sPar P i j ev)) :=
  PS.of (ps_par hc hN hi hj hij hx hy ha hw hs) fun Dn σ H h => by
    obtain ⟨Xs, B, st, r, h⟩ := h
    refine tA_S r h fun vs H1 ds st1 p1 p q h1 => ?_
    split at h1
    · next d e =>
      split at h1
      · exact h1.elim
      · next hc =>
        cases q with
        | cons q1 q2 =>
          cases q2 with
          | cons q2 q3 =>
            cases q3
            have s1 := relS_set p.rel (i := i) (fun z => hc (.inl z)) (.inr ⟨d, rfl, q1⟩)
            have s2 := relS_set s1.rel (i := j) (fun z => hc (.inr z)) (.inr ⟨e, rfl, dp_mono s1.ex q2⟩)
            exact ⟨_, _, rfl, h1 _ _ ((p.trans s1).trans s2)⟩
    · exact h1.elim
/-- a, b, .. = a tuple -/
def putAll (P : List Nat) : List Nat → List D → List Sl → SO
  | [], [], st => .nx st
  | i :: is, d :: ds, st => if i ∈ P then .no else putAll P is ds (st.set i (.pu d))
  | _, _, _ => .no
def sUnp (P : List Nat) (is : List Nat) (e : EvE) : EvS := fun st => (e st).toS fun z st1 => match z.1 with
  | .tup ds => putAll P is ds st1
  | _ => .no
def gNames : List Nat → TGs
  | [] => gNil
  | i :: is => gCons (gName i) (gNames is)
theorem putAll_len {K : PySem.W.Frag} {Xs : List Addr} {B : Hp} {Dn : Ends} {st0 : List Sl} {σ0 : L2.St} {H0 H : Hp} : ∀ {is : List Nat} {ds : List D} {st : List Sl}, RdS K w Xs P B st0 σ0 H0 Dn (putAll P is ds st) → ds.length = is.length
  | [], [], _, _ => rfl
  | [], _ :: _, _, h => h.elim
  | _ :: _, [], _, h => h.elim
  | i :: is, d :: ds, st, h => by
    unfold putAll at h
    split at h
    · exact h.elim
    · rw [List.length_cons, List.length_cons, putAll_len (H := H) h]
theorem putAll_of {K : PySem.W.Frag} {Xs : List Addr} {B : Hp} {Dn : Ends} {st0 : List Sl} {σ0 : L2.St} {H0 H : Hp} : ∀ {is : List Nat} {ds : List D} {vs : List V} {st : List Sl} {σ : L2.St}, PostS K Xs P B st0 σ0 H0 st σ H → DqAll K (vis Xs st σ H) vs ds →
    RdS K w Xs P B st0 σ0 H0 Dn (putAll P is ds st) → gNames is vs σ H Dn.nx
  | [], [], _, _, _, p, .nil, h => ⟨rfl, h _ _ p⟩
  | [], _ :: _, _, _, _, _, _, h => h.elim
  | _ :: _, [], _, _, _, _, _, h => h.elim
  | i :: is, d :: ds, _, st, σ, p, .cons q1 q2, h => by
    unfold putAll at h
    split at h
    · exact h.elim
    · next hi =>
      have s1 := relS_set p.rel (i := i) hi (.inr ⟨d, rfl, q1⟩)
      exact ⟨_, _, rfl, putAll_of (p.trans s1) (dpAll_mono s1.ex q2) h⟩
theorem xs_unp (is : List Nat) {es : List Expr} {e : Expr} {ev : EvE} {k : Nat} {tp : Pos} (he : PE X e (tE X.K w ev)) (hg : PGs X es (gNames is)) (hc : X.calm = true) (hn : (assignEach es X.env).length = is.length := by rfl) (hst : (assignEach es X.env).findIdx? (·.1) = none := by rfl)
    (hs : swapsWithSole [.Tuple es k tp] e pos.line X.env = pure false := by rfl) (hw : swappedStores [.Tuple es k tp] e X.env = pure none := by rfl) (h1 : (assignEach [.Tuple es k tp] X.env).map (·.2) = [assign (.Tuple es k tp) X.env] := by rfl) :
    PS X (.Assign [.Tuple es k tp] e pos) (tS X.K w P (sUnp P is ev)) :=
  PS.of (ps_asg he (pg_tup hc hg hn hst) hs hw h1) fun Dn σ H h => by
    obtain ⟨Xs, B, st, r, h⟩ := h
    refine tE_S r h fun v H1 z st1 p1 p v1 h1 => ?_
    have dp := v1.dp
    revert dp h1
    cases z.1 with
    | tup ds =>
      intro h1 dp
      cases dp with
      | tup e1 e2 => exact ⟨_, _, rfl, ex_t msk_ex e1, by rw [dpAll_len e2]; exact putAll_len (H := H1) h1, putAll_of p e2 h1⟩
    | _ => intro h1; exact h1.elim
theorem xg_nil : PGs X [] (gNames []) := pgs_nil
theorem xg_cons (i : Nat) {x : Str} {p : Pos} {es : List Expr} {is : List Nat} (h : PGs X es (gNames is)) (hN : X.N.Nodup) (hi : X.N[i]? = some x := by rfl) (hx : Loc X.env.scope x := by first | exact Or.inl rfl | exact Or.inr rfl)
    (hf : X.fn x = true ∨ X.env.scope.names.lookup x = some .local := by first | exact .inl rfl | exact .inr rfl | assumption)
    (hs : (assignEach (.Name x p :: es) X.env).map (·.2) = assign (.Name x p) X.env :: (assignEach es X.env).map (·.2) := by rfl) : PGs X (.Name x p :: es) (gNames (i :: is)) := pgs_cons (pg_name hN hi hx hf) h hs

/-! ### an item, an append -/
def sItem (i : Nat) (ix e : EvE) : EvS := fun st => (e st).toS fun z st1 => match slD st1[i]? with
  | none => .no
  | some _ => (ix st1).toS fun k st2 => match st2[i]?, k.1 with
    | some (.ow ds), .int n => match ixN ds.length n with
      | some j => .nx (st2.set i (.ow (ds.set j z.1)))
      | none => .no
    | _, _ => .no
theorem xs_item (i : Nat) {x : Str} {e ix : Expr} {ev ei : EvE} {tp np : Pos} (he : PE X e (tE X.K w ev)) (hx : PE X ix (tE X.K w ei)) (hN : X.N[i]? = some x := by rfl) (hv : Vis X.env.scope x := by first | exact Or.inl rfl | exact Or.inr (Or.inl rfl) | exact Or.inr (Or.inr rfl))
    (hd : (x == ("__debug__" : Str)) = false := by decide) (hcd : (x == ("__classdict__" : Str)) = false := by decide)
    (ha : ∀ v, assign (.Subscript (.Name x np) ix tp) X.env v = (do
      let ov ← holding [v] (eval (.Name x np) X.env)
      let iv ← holding [v, ov] (eval ix X.env)
      standAt tp
      holding [v, ov, iv] (setItem ov iv v)
      release [v, ov, iv] []) := by intro _; rfl)
    (hs : swapsWithSole [.Subscript (.Name x np) ix tp] e pos.line X.env = pure false := by rfl) (hw : swappedStores [.Subscript (.Name x np) ix tp] e X.env = pure none := by rfl) (h1 : (assignEach [.Subscript (.Name x np) ix tp] X.env).map (·.2) = [assign (.Subscript (.Name x np) ix tp) X.env] := by rfl) :
    PS X (.Assign [.Subscript (.Name x np) ix tp] e pos) (tS X.K w P (sItem i ei ev)) :=
  PS.of (ps_asg he (pg_sub (pe_var hN hv hd hcd) hx set_list ha) hs hw h1) fun Dn σ H h => by
    obtain ⟨Xs, B, st, r, h⟩ := h
    refine tE_S r h fun v H1 z st1 p1 p v1 h1 => ?_
    split at h1
    · exact h1.elim
    · next d0 e0 =>
      obtain ⟨u, e1, _⟩ := slD_at p.rel.rel e0
      refine ⟨u, e1, tE_S p.rel (h1.on p) fun k H2 kz st2 p2 q2 v2 h2 => ?_⟩
      split at h2
      · next ds n es ek =>
        obtain ⟨a, us, e2, e3, e4⟩ := q2.rel.rel.ow i ds es
        have eu : u = .ref a := by rw [e1] at e2; cases e2; rfl
        subst eu
        have kd := v2.dp
        rw [ek] at kd
        cases kd
        cases ej : ixN ds.length n with
        | none => rw [ej] at h2; exact h2.elim
        | some j =>
          rw [ej] at h2
          refine ⟨a, us, n, j, rfl, rfl, e3, by rw [dpAll_len e4]; exact ej, ?_⟩
          exact h2 σ _ (q2.trans (relS_write q2.rel es e2 e3 (dpAll_set (dp_mono q2.ex v1.dp) j e4)))
      · exact h2.elim
def sApp (i : Nat) (e : EvE) : EvS := fun st => match st[i]? with
  | some (.ow _) => (e st).toS fun z st1 => match st1[i]? with
    | some (.ow ds) => if ds.length < 100000 then .nx (st1.set i (.ow (ds ++ [z.1]))) else .no
    | _ => .no
  | _ => .no
theorem xs_app (i : Nat) {x : Str} {e : Expr} {ev : EvE} {np ap cp : Pos} (he : PE X e (tE X.K w ev)) (hN : X.N[i]? = some x := by rfl) (hv : Vis X.env.scope x := by first | exact Or.inl rfl | exact Or.inr (Or.inl rfl) | exact Or.inr (Or.inr rfl))
    (hd : (x == ("__debug__" : Str)) = false := by decide) (hcd : (x == ("__classdict__" : Str)) = false := by decide)
    (hsw : swapsWith (.Call (.Attribute (.Name x np) "append" ap) [e] [] cp) none pos.line X.env = pure false := by rfl)
    (hst : starEach [e] X.env = (false, eval e X.env) :: starEach [] X.env := by rfl)
    (hfew : ((backTo cp (starEach [e] X.env)).all (fun x => !x.1) && (backToKw cp (keywordEach [] X.env)).all (fun x => x.1.isSome) && decide ([e].length + ([] : List Keyword).length + (if ([] : List Keyword).isEmpty then 0 else 1) < 30)) = true := by rfl)
    (hline : (ap.endLine == cp.line) = true := by rfl) :
    PS X (.Expr (.Call (.Attribute (.Name x np) "append" ap) [e] [] cp) pos) (tS X.K w P (sApp i ev)) :=
  PS.of (ps_expr (pe_bm PySem.F.plainAttrs_list PySem.F.slot_list_append PySem.F.type_list_append mt_append (pe_var hN hv hd hcd) (pa_cons he pa_nil hst) (by rfl) hfew hline hst) hsw) fun Dn σ H h => by
    obtain ⟨Xs, B, st, r, h⟩ := h
    unfold sApp at h
    split at h
    · next ds0 e0 =>
      obtain ⟨a, us0, e1, e2, _⟩ := r.rel.ow i ds0 e0
      refine ⟨.ref a, e1, .inl ⟨rfl, us0, SqL.of e2⟩, tE_S r h fun v H1 z st1 p1 p v1 h1 => ?_⟩
      split at h1
      · next ds es =>
        split at h1
        · next hl =>
          obtain ⟨a', us, e3, e4, e5⟩ := p.rel.rel.ow i ds es
          have ea : a' = a := by rw [e1] at e3; cases e3; rfl
          subst ea
          refine ⟨a', us, v, rfl, rfl, e4, by rw [dpAll_len e5]; exact sz_lt hl, ?_⟩
          exact h1 σ _ (p.trans (relS_write p.rel es e3 e4 (dpAll_append e5 (.cons v1.dp .nil))))
        · exact h1.elim
      · exact h1.elim
    · exact h.elim

/-! ### return, if, a value dropped, pass, break, continue -/
def sRet (e : EvE) : EvS := fun st => (e st).toS fun z st1 => .rt z st1
def sRetV (P : List Nat) (i : Nat) : EvS := fun st => match st[i]? with
  | some (.pu d) => .rt (d, false) st
  | some (.ow ds) => if i ∈ P then .no else .rt (.lst ds, true) (st.set i .un)
  | _ => .no
def sRetN : EvS := fun st => .rt (.non, false) st
def sIf (t : EvT) (a b : EvS) : EvS := fun st => (t st).toS fun c st1 => if c = true then a st1 else b st1
def sDrop (e : EvE) : EvS := fun st => (e st).toS fun _ st1 => .nx st1
theorem valR_of {K : PySem.W.Frag} {Xs : List Addr} {B : Hp} {st st1 : List Sl} {σ : L2.St} {H H1 : Hp} {v : V} {z : R1} (r : RelS K Xs P B st σ H) (h : Val K Xs σ H st1 H1 v z) : ValR K Xs B st1 σ H1 v z :=
  ⟨h.dp, fun e => by
    obtain ⟨p, vs, ds, h1, h2, h3, h4⟩ := h.fr e
    exact ⟨p, vs, ds, h1, h2, r.dom p h3, h4⟩⟩
theorem xs_ret {e : Expr} {ev : EvE} (he : PE X e (tE X.K w ev)) : PS X (.Return (some e) pos) (tS X.K w P (sRet ev)) := PS.of (ps_ret he) fun Dn σ H h => by
  obtain ⟨Xs, B, st, r, h⟩ := h
  exact tE_S r h fun v H1 z st1 p1 p v1 h1 => h1 v σ H1 p (valR_of r v1)
theorem xs_retN : PS X (.Return none pos) (tS X.K w P sRetN) := PS.of ps_retN fun Dn σ H h => by
  obtain ⟨Xs, B, st, r, h⟩ := h
  exact h .non σ H (PostS.refl r) ⟨.non, fun e => by cases e⟩
theorem xs_retV (i : Nat) {x : Str} {np : Pos} (hN : X.N[i]? = some x := by rfl) (hv : Vis X.env.scope x := by first | exact Or.inl rfl | exact Or.inr (Or.inl rfl) | exact Or.inr (Or.inr rfl))
    (hd : (x == ("__debug__" : Str)) = false := by decide) (hcd : (x == ("__classdict__" : Str)) = false := by decide) : PS X (.Return (some (.Name x np)) pos) (tS X.K w P (sRetV P i)) := PS.of (ps_ret (pe_var hN hv hd hcd)) fun Dn σ H h => by
  obtain ⟨Xs, B, st, r, h⟩ := h
  unfold sRetV at h
  split at h
  · next d e =>
    obtain ⟨v, e1, e2⟩ := r.rel.pu i d e
    exact ⟨v, e1, h v σ H (PostS.refl r) ⟨e2, fun e => by cases e⟩⟩
  · next ds e =>
    split at h
    · exact h.elim
    · next hi =>
      obtain ⟨p, vs, e1, e2, e3⟩ := r.rel.ow i ds e
      -- the slot's list is the value; the slot is forgotten
      have hσ : σ.set i (some (.ref p)) = σ := by
        apply List.ext_getElem?
        intro j
        by_cases ej : i = j
        · subst ej
          rw [List.getElem?_set_self (List.getElem?_eq_some_iff.mp e1).1, e1]
        · rw [List.getElem?_set_ne ej]
      have q := relS_set (v := .ref p) r hi (.inl rfl)
      rw [hσ] at q
      have hlt : i < st.length := (List.getElem?_eq_some_iff.mp e).1
      have pm : (hid Xs st σ).Perm (p :: hid Xs (st.set i .un) σ) := by
        have h0 := (ownd_set_own (ds := ds) (p := p) hlt (by rw [← r.rel.len]; exact hlt)).append_right Xs
        have h1 : st.set i (.ow ds) = st := by
          apply List.ext_getElem?
          intro j
          by_cases ej : i = j
          · subst ej
            rw [List.getElem?_set_self hlt, e]
          · rw [List.getElem?_set_ne ej]
        rw [h1, hσ] at h0
        exact h0
      have nd := pm.nodup_iff.mp r.rel.nd
      have np' : p ∉ hid Xs (st.set i .un) σ := (List.nodup_cons.mp nd).1
      have sm : ∀ a, a ∈ hid (p :: Xs) (st.set i .un) σ ↔ a ∈ hid Xs st σ := fun a => by
        rw [pm.mem_iff]
        exact (List.perm_middle (a := p) (l₁ := ownd (st.set i .un) σ) (l₂ := Xs)).mem_iff
      have ev : vis (p :: Xs) (st.set i .un) σ H = vis Xs st σ H := msk_congr sm
      refine ⟨.ref p, e1, h (.ref p) σ H q ⟨.lst (by show msk _ H p = _; rw [msk_out np']; exact e2) (dpAll_mono q.ex e3), fun _ => ⟨p, vs, ds, rfl, rfl, r.own i ds p hi e e1, e2, by rw [ev]; exact e3, ?_⟩⟩⟩
      refine ⟨q.rel.rel.len, ?_, fun j d hj => ?_, fun j es hj => ?_, fun x hx => ?_⟩
      · exact (List.perm_middle (a := p) (l₁ := ownd (st.set i .un) σ) (l₂ := Xs)).nodup_iff.mpr nd
      · rw [ev]
        by_cases ej : i = j
        · subst ej; rw [List.getElem?_set_self hlt] at hj; cases hj
        · rw [List.getElem?_set_ne ej] at hj; exact r.rel.pu j d hj
      · rw [ev]
        by_cases ej : i = j
        · subst ej; rw [List.getElem?_set_self hlt] at hj; cases hj
        · rw [List.getElem?_set_ne ej] at hj; exact r.rel.ow j es hj
      · rcases List.mem_cons.mp hx with e | hx
        · rw [e, e2]; simp
        · exact r.rel.xs x hx
  · exact h.elim
theorem xs_if {c : Expr} {t : EvT} {a b : List Stmt} {ea eb : EvS} (hc : PT X c (tT X.K w t)) (ha : PSs X a (tS X.K w P ea)) (hb : PSs X b (tS X.K w P eb)) : PS X (.If c a b pos) (tS X.K w P (sIf t ea eb)) := PS.of (ps_if hc ha hb) fun Dn σ H h => by
  obtain ⟨Xs, B, st, r, h⟩ := h
  refine tT_S r h fun k H1 st1 p h1 => ?_
  cases k with
  | true => exact iteT ⟨Xs, B, st1, p.rel, (show RdS _ _ _ _ _ _ _ _ _ (ea st1) from h1).on p⟩
  | false => exact iteF ⟨Xs, B, st1, p.rel, (show RdS _ _ _ _ _ _ _ _ _ (eb st1) from h1).on p⟩
theorem xs_drop {e : Expr} {ev : EvE} (he : PE X e (tE X.K w ev)) (hs : swapsWith e none pos.line X.env = pure false := by rfl) : PS X (.Expr e pos) (tS X.K w P (sDrop ev)) := PS.of (ps_expr he hs) fun Dn σ H h => by
  obtain ⟨Xs, B, st, r, h⟩ := h
  exact tE_S r h fun v H1 z st1 p1 p v1 h1 => h1 σ H1 p
theorem xs_pass : PS X (.Pass pos) (tS X.K w P sSkip) := PS.of ps_pass fun Dn σ H h => by
  obtain ⟨Xs, B, st, r, h⟩ := h
  exact h σ H (PostS.refl r)
theorem xs_break : PS X (.Break pos) (tS X.K w P fun st => .bk st) := PS.of ps_break fun Dn σ H h => by
  obtain ⟨Xs, B, st, r, h⟩ := h
  exact h σ H (PostS.refl r)
theorem xs_cont : PS X (.Continue pos) (tS X.K w P fun st => .ct st) := PS.of ps_continue fun Dn σ H h => by
  obtain ⟨Xs, B, st, r, h⟩ := h
  exact h σ H (PostS.refl r)
end
end TX

end

section
set_option Elab.async false
set_option linter.all false
set_option maxRecDepth 100000
set_option maxHeartbeats 2000000
namespace TX
open PySem L2 Evl PyProof.Rows

/-! ### what a loop walks -/
structure Src (K : PySem.W.Frag) (J : It) (ds : List D) (C : Hp → Prop) : Prop where
  mono : ∀ M M', Ex M M' → C M → C M'
  stop : ∀ i H M, Ex M H → C M → ds.length ≤ i → J.stop i H
  go : ∀ i H M, Ex M H → C M → i < ds.length → J.go i H
  yld : ∀ Xs st σ i H x H' d, Rel K Xs st σ H → C (vis Xs st σ H) → ds[i]? = some d → J.yld i H x H' → Post K Xs st σ H st H' ∧ Dq K (vis Xs st σ H') x d
abbrev EvI := List Sl → O (List D)
def tI (K : PySem.W.Frag) (w : Wi) (ev : EvI) : TI := fun σ H R => ∃ Xs st, Rel K Xs st σ H ∧ Rdo (ev st) (fun ds st' => ∀ J H' C, Post K Xs st σ H st' H' → Src K J ds C → C (vis Xs st' σ H') → R J H') (exW K w Xs st σ H)
theorem PI.of {X : Cx} {tg iter : Expr} {t t' : TI} (h : PI X tg iter t) (w : ∀ σ H R, t' σ H R → t σ H R) : PI X tg iter t' := ⟨fun pins s σ H R I q => h.run pins s σ H R I (w σ H R q)⟩
def iSeq (e : EvE) : EvI := fun st => (e st).bind fun z st1 => match z.1 with
  | .tup ds => .ok ds st1
  | .lst ds => .ok ds st1
  | .scr ns => .ok (ns.map .int) st1
  | _ => .no
def D.smallInt? : D → Option Int
  | .int n => if -100000 ≤ n ∧ n ≤ 100000 then some n else none
  | _ => none
def rngD (lo : Int) (n : Nat) : List D := (List.range n).map fun (k : Nat) => .int (lo + (k : Int))
def iRng (a : EvE) : EvI := fun st => (a st).bind fun z st1 => match z.1.smallInt? with
  | some n => .ok (rngD 0 n.toNat) st1
  | none => .no
def iRngB (a b : EvE) : EvI := fun st => (a st).bind fun z st1 => (b st1).bind fun y st2 => match z.1.smallInt?, y.1.smallInt? with
  | some lo, some hi => .ok (rngD lo (hi - lo).toNat) st2
  | _, _ => .no
section
variable {K : PySem.W.Frag}
theorem src_list {a : Addr} {ds : List D} : Src K (Itl K a) ds fun M => ∃ vs, M a = some (.lst vs) ∧ DqAll K M vs ds where
  mono := fun M M' e ⟨vs, h1, h2⟩ => ⟨vs, e _ _ h1, dpAll_mono e h2⟩
  stop := fun i H M e ⟨vs, h1, h2⟩ hi => ⟨vs, SqL.of (e _ _ h1), by rw [dpAll_len h2]; exact hi⟩
  go := fun i H M e ⟨vs, h1, h2⟩ hi => ⟨vs, vs[i]'(by rw [dpAll_len h2]; exact hi), SqL.of (e _ _ h1), List.getElem?_eq_getElem _⟩
  yld := fun Xs st σ i H x H' d r ⟨vs, h1, h2⟩ hd ⟨e, hy⟩ => by
    subst e
    obtain ⟨v, e1, e2⟩ := dpAll_getD h2 hd
    have e3 := hy vs (SqL.of (msk_ex _ _ h1))
    rw [e1] at e3
    cases e3
    exact ⟨Post.refl r, e2⟩
theorem src_tup {a : Addr} {ds : List D} : Src K (Itt K a) ds fun M => ∃ vs, SqT K M a vs ∧ DqAll K M vs ds where
  mono := fun M M' e ⟨vs, h1, h2⟩ => ⟨vs, ex_t e h1, dpAll_mono e h2⟩
  stop := fun i H M e ⟨vs, h1, h2⟩ hi => ⟨vs, ex_t e h1, by rw [dpAll_len h2]; exact hi⟩
  go := fun i H M e ⟨vs, h1, h2⟩ hi => ⟨vs, vs[i]'(by rw [dpAll_len h2]; exact hi), ex_t e h1, List.getElem?_eq_getElem _⟩
  yld := fun Xs st σ i H x H' d r ⟨vs, h1, h2⟩ hd ⟨e, hy⟩ => by
    subst e
    obtain ⟨v, e1, e2⟩ := dpAll_getD h2 hd
    have e3 := hy vs (ex_t msk_ex h1)
    rw [e1] at e3
    cases e3
    exact ⟨Post.refl r, e2⟩
theorem src_scr {a : Addr} {ns : List Int} : Src K (Itl K a) (ns.map .int) fun M => SqL K M a (ns.map V.int) where
  mono := fun M M' e h1 => ex_l e h1
  stop := fun i H M e h1 hi => ⟨ns.map V.int, ex_l e h1, by rw [List.length_map] at hi ⊢; exact hi⟩
  go := fun i H M e h1 hi => ⟨ns.map V.int, (ns.map V.int)[i]'(by rw [List.length_map] at hi ⊢; exact hi), ex_l e h1, List.getElem?_eq_getElem _⟩
  yld := fun Xs st σ i H x H' d r h1 hd ⟨e, hy⟩ => by
    subst e
    have e3 := hy (ns.map V.int) (ex_l msk_ex h1)
    rw [List.getElem?_map] at hd e3
    cases en : ns[i]? with
    | none => rw [en] at hd; cases hd
    | some n =>
      rw [en] at hd e3
      cases hd
      cases e3
      exact ⟨Post.refl r, .int n⟩
theorem src_rng {lo : Int} {n : Nat} : Src K (Itr lo n) (rngD lo n) fun _ => True where
  mono := fun _ _ _ _ => trivial
  stop := fun i H M _ _ hi => by
    have : (rngD lo n).length = n := by simp [rngD]
    rw [this] at hi
    exact hi
  go := fun i H M _ _ hi => by
    have : (rngD lo n).length = n := by simp [rngD]
    rw [this] at hi
    exact hi
  yld := fun Xs st σ i H x H' d r _ hd ⟨e, hx⟩ => by
    subst e
    subst hx
    unfold rngD at hd
    rw [List.getElem?_map] at hd
    cases en : (List.range n)[i]? with
    | none => rw [en] at hd; cases hd
    | some k =>
      rw [en] at hd
      cases hd
      have hk := List.getElem?_range (n := n) (i := i)
      have : k = i := by
        have h2 := (List.getElem?_eq_some_iff.mp en)
        obtain ⟨h3, h4⟩ := h2
        rw [List.getElem_range] at h4
        exact h4.symm
      subst this
      exact ⟨Post.refl r, .int _⟩
end
theorem smallInt?_of {d : D} {n : Int} (h : d.smallInt? = some n) : d = .int n ∧ -100000 ≤ n ∧ n ≤ 100000 := by
  cases d with
  | int k =>
    simp only [D.smallInt?] at h
    split at h
    · next hc => cases h; exact ⟨rfl, hc⟩
    · cases h
  | _ => cases h
section
variable {X : Cx} {w : Wi} {tg : Expr}
theorem xi_seq {e : Expr} {ev : EvE} (he : PE X e (tE X.K w ev)) : PI X tg e (tI X.K w (iSeq ev)) := by
  refine ⟨fun pins s σ H R I h => ?_⟩
  obtain ⟨Xs, st, rel, h⟩ := h
  unfold iSeq at h
  cases ez : ev st with
  | no => rw [ez] at h; exact h.elim
  | ex c d st1 =>
    rw [ez] at h
    exact (pi_list (tg := tg) he).run pins s σ H R I (show iList X.K (tE X.K w ev) σ H R from ⟨Xs, st, rel, by rw [ez]; exact h⟩)
  | ok z st1 =>
    rw [ez] at h
    obtain ⟨d, b⟩ := z
    cases d with
    | tup ds =>
      refine (pi_tup (tg := tg) he).run pins s σ H R I (show iTup X.K (tE X.K w ev) σ H R from ⟨Xs, st, rel, ?_⟩)
      rw [ez]
      intro v H' p q
      cases q.dp with
      | tup h1 h2 => exact ⟨_, rfl, ⟨_, ex_t msk_ex h1⟩, h _ H' _ p src_tup ⟨_, h1, h2⟩⟩
    | lst ds =>
      refine (pi_list (tg := tg) he).run pins s σ H R I (show iList X.K (tE X.K w ev) σ H R from ⟨Xs, st, rel, ?_⟩)
      rw [ez]
      intro v H' p q
      cases q.dp with
      | lst h1 h2 => exact ⟨_, rfl, ⟨_, SqL.of (msk_ex _ _ h1)⟩, h _ H' _ p src_list ⟨_, h1, h2⟩⟩
    | scr ns =>
      refine (pi_list (tg := tg) he).run pins s σ H R I (show iList X.K (tE X.K w ev) σ H R from ⟨Xs, st, rel, ?_⟩)
      rw [ez]
      intro v H' p q
      cases q.dp with
      | scr h1 => exact ⟨_, rfl, ⟨_, ex_l msk_ex h1⟩, h _ H' _ p src_scr h1⟩
    | _ => exact h.elim
theorem xi_rng {a : Expr} {ea : EvE} {p pos : Pos} (hm : X.mg "range" = none) (ha : PE X a (tE X.K w ea)) (hg : Gl X "range" := by rfl) (he : starEach [a] X.env = (false, eval a X.env) :: starEach [] X.env := by rfl) : PI X tg (.Call (.Name "range" p) [a] [] pos) (tI X.K w (iRng ea)) :=
  PI.of (pi_range1 hg hm (pa_cons ha pa_nil he) he) fun σ H R h => by
    obtain ⟨Xs, st, rel, h⟩ := h
    refine tE_seq rel h fun x H1 rx st1 p1 v1 h1 => ?_
    split at h1
    · next n en =>
      obtain ⟨e1, e2, e3⟩ := smallInt?_of en
      have dp := v1.dp
      rw [e1] at dp
      cases dp
      exact ⟨n, rfl, by omega, by omega, h1 _ H1 _ p1 src_rng trivial⟩
    · exact h1.elim
theorem xi_rngB {a b : Expr} {ea eb : EvE} {p pos : Pos} (hm : X.mg "range" = none) (ha : PE X a (tE X.K w ea)) (hb : PE X b (tE X.K w eb)) (hg : Gl X "range" := by rfl) (he : starEach [a, b] X.env = [(false, eval a X.env), (false, eval b X.env)] := by rfl) (he2 : starEach [b] X.env = [(false, eval b X.env)] := by rfl) : PI X tg (.Call (.Name "range" p) [a, b] [] pos) (tI X.K w (iRngB ea eb)) :=
  PI.of (pi_range2 hg hm (pa_cons ha (pa_cons hb pa_nil he2) (by rw [he, he2])) he he2) fun σ H R h => by
    obtain ⟨Xs, st, rel, h⟩ := h
    refine tE_seq rel h fun x H1 rx st1 p1 v1 h1 => ?_
    refine tE_seq p1.rel h1 fun y H2 ry st2 p2 v2 h2 => ?_
    split at h2
    · next lo hi e1 e2 =>
      obtain ⟨a1, a2, a3⟩ := smallInt?_of e1
      obtain ⟨b1, b2, b3⟩ := smallInt?_of e2
      have d1 := v1.dp
      rw [a1] at d1
      cases d1
      have d2 := v2.dp
      rw [b1] at d2
      cases d2
      exact ⟨lo, hi, rfl, ⟨by omega, by omega, by omega, by omega⟩, h2 _ H2 _ (p1.trans p2) src_rng trivial⟩
    · exact h2.elim
end

/-! ### targets -/
def TgS (K : PySem.W.Frag) (P : List Nat) (g : TG) (put : D → List Sl → SO) : Prop := ∀ (w : Wi) (Xs : List Addr) (B : Hp) (st : List Sl) (σ : L2.St) (H : Hp) (Dn : Ends) (x : V) (d : D),
  RelS K Xs P B st σ H → Dq K (vis Xs st σ H) x d → RdS K w Xs P B st σ H Dn (put d st) → g x σ H Dn.nx
def putN (P : List Nat) (i : Nat) : D → List Sl → SO := fun d st => if i ∈ P ∨ st.length ≤ i then .no else .nx (st.set i (.pu d))
def putT (P : List Nat) (is : List Nat) : D → List Sl → SO := fun d st => match d with
  | .tup ds => putAll P is ds st
  | _ => .no
theorem tg_name {K : PySem.W.Frag} {P : List Nat} {i : Nat} : TgS K P (gName i) (putN P i) := fun w Xs B st σ H Dn x d r q h => by
  unfold putN at h
  split at h
  · exact h.elim
  · next hc => exact h _ _ (relS_set r (fun q => hc (.inl q)) (.inr ⟨d, rfl, q⟩))
theorem tg_tup {K : PySem.W.Frag} {P : List Nat} {is : List Nat} {n : Nat} (hn : is.length = n) : TgS K P (gTup K n (gNames is)) (putT P is) := fun w Xs B st σ H Dn x d r q h => by
  unfold putT at h
  split at h
  · next ds =>
    cases q with
    | tup e1 e2 => exact ⟨_, _, rfl, ex_t msk_ex e1, by rw [dpAll_len e2, ← hn]; exact putAll_len (H := H) h, putAll_of (PostS.refl r) e2 h⟩
  · exact h.elim

/-! ### for, while -/
def sFor (put : D → List Sl → SO) (body : EvS) : List D → EvS
  | [], st => .nx st
  | d :: r, st => match put d st with
    | .nx st1 => match body st1 with
      | .nx s => sFor put body r s
      | .ct s => sFor put body r s
      | .bk s => .nx s
      | o => o
    | o => o
def sForI (put : D → List Sl → SO) (it : EvI) (body : EvS) : EvS := fun st => (it st).toS fun ds st1 => sFor put body ds st1
/-- only a name or names are put -/
def Puts (put : D → List Sl → SO) : Prop := ∀ d st, (∃ s, put d st = .nx s) ∨ put d st = .no
theorem puts_N {P : List Nat} {i : Nat} : Puts (putN P i) := fun d st => by
  unfold putN
  split
  · exact .inr rfl
  · exact .inl ⟨_, rfl⟩
theorem puts_all {P : List Nat} : ∀ {is : List Nat} {ds : List D} {st : List Sl}, (∃ s, putAll P is ds st = .nx s) ∨ putAll P is ds st = .no
  | [], [], st => .inl ⟨st, rfl⟩
  | [], _ :: _, _ => .inr rfl
  | _ :: _, [], _ => .inr rfl
  | i :: is, d :: ds, st => by
    unfold putAll
    split
    · exact .inr rfl
    · exact puts_all
theorem puts_T {P : List Nat} {is : List Nat} : Puts (putT P is) := fun d st => by
  unfold putT
  cases d <;> first | exact puts_all | exact .inr rfl
section
variable {X : Cx} {w : Wi} {P : List Nat} {pos : Pos}
theorem for_of {K : PySem.W.Frag} {g : TG} {put : D → List Sl → SO} {body : EvS} {J : It} {ds : List D} {C : Hp → Prop} {Xs : List Addr} {B : Hp} {st0 st1 : List Sl} {σ : L2.St} {H0 H1 : Hp} {Dn : Ends} (hg : TgS K P g put) (hp : Puts put) (S : Src K J ds C) (p : PostS K Xs P B st0 σ H0 st1 σ H1) (c : C (vis Xs st1 σ H1))
    (h : RdS K w Xs P B st0 σ H0 Dn (sFor put body ds st1)) : ∃ W : Nat → Nat → L2.St → Hp → Prop, (∃ m, W 0 m σ H1) ∧ ∀ i m σ H, W i m σ H →
      (J.stop i H ∧ Dn.nx σ H) ∨ (J.go i H ∧ ∃ N : L2.St → Hp → Prop, (∀ σ' H', N σ' H' → ∃ m', m' < m ∧ W (i + 1) m' σ' H') ∧ ∀ x H', J.yld i H x H' → g x σ H' fun σ2 H2 => tS K w P body { Dn with nx := N, ct := N, bk := Dn.nx } σ2 H2) := by
  refine ⟨fun i m σ' H' => m = ds.length - i ∧ ∃ st, PostS K Xs P B st0 σ H0 st σ' H' ∧ C (vis Xs st σ' H') ∧ RdS K w Xs P B st0 σ H0 Dn (sFor put body (ds.drop i) st), ⟨_, rfl, st1, p, c, by rw [List.drop_zero]; exact h⟩, ?_⟩
  rintro i m σ' H' ⟨hm, st, p', c', h'⟩
  by_cases hi : i < ds.length
  · refine .inr ⟨S.go i H' _ msk_ex c' hi, fun σ2 H2 => ds.length - (i + 1) = ds.length - (i + 1) ∧ ∃ st, PostS K Xs P B st0 σ H0 st σ2 H2 ∧ C (vis Xs st σ2 H2) ∧ RdS K w Xs P B st0 σ H0 Dn (sFor put body (ds.drop (i + 1)) st), fun σ2 H2 q => ⟨ds.length - (i + 1), by omega, q⟩, fun x H2 hy => ?_⟩
    have hd : ds[i]? = some ds[i] := List.getElem?_eq_getElem hi
    obtain ⟨q1, q2⟩ := S.yld Xs st σ' i H' x H2 ds[i] p'.rel.rel c' hd hy
    have p2 := p'.trans (PostS.of p'.rel q1)
    have c2 := S.mono _ _ q1.ex c'
    rw [List.drop_eq_getElem_cons hi] at h'
    unfold sFor at h'
    rcases hp ds[i] st with ⟨s1, e1⟩ | e1
    · rw [e1] at h'
      dsimp only at h'
      refine hg w Xs B st σ' H2 { nx := fun σ2 H3 => tS K w P body { Dn with nx := _, ct := _, bk := Dn.nx } σ2 H3, rt := Dn.rt } x ds[i] p2.rel q2 ?_
      rw [e1]
      intro σ3 H3 p3
      have p4 := p2.trans p3
      refine ⟨Xs, B, s1, p4.rel, ?_⟩
      cases eb : body s1 with
      | nx s =>
        rw [eb] at h'
        exact fun σ4 H4 p5 => ⟨rfl, s, p4.trans p5, S.mono _ _ (p3.ex.trans p5.ex) c2, h'⟩
      | ct s =>
        rw [eb] at h'
        exact fun σ4 H4 p5 => ⟨rfl, s, p4.trans p5, S.mono _ _ (p3.ex.trans p5.ex) c2, h'⟩
      | bk s =>
        rw [eb] at h'
        exact fun σ4 H4 p5 => h' σ4 H4 (p4.trans p5)
      | rt r s =>
        rw [eb] at h'
        exact fun v σ4 H4 p5 => h' v σ4 H4 (p4.trans p5)
      | ex c d s =>
        rw [eb] at h'
        exact fun dx v σ4 H4 p5 => h' dx v σ4 H4 (p4.trans p5)
      | no =>
        rw [eb] at h'
        exact h'.elim
    · rw [e1] at h'
      exact h'.elim
  · left
    have e : ds.drop i = [] := List.drop_eq_nil_of_le (by omega)
    rw [e] at h'
    exact ⟨S.stop i H' _ msk_ex c' (by omega), h' σ' H' p'⟩
theorem xs_for {tg iter : Expr} {body : List Stmt} {g : TG} {put : D → List Sl → SO} {it : EvI} {eb : EvS} (hi : PI X tg iter (tI X.K w it)) (hg : PG X tg g) (hS : TgS X.K P g put) (hP : Puts put) (hb : PSs X body (tS X.K w P eb)) (hp : PassesOwn (model X.prog X.w) X.A X.env X.xe) (hc : X.calm = true)
    (hs : ∀ x, foldedSetIterable iter X.env x = pure x := by intro _; rfl) : PS X (.For tg iter body [] pos) (tS X.K w P (sForI put it eb)) :=
  PS.of (ps_for hp hc hi hg hb hs) fun Dn σ H h => by
    obtain ⟨Xs, B, st, r, h⟩ := h
    unfold sForI at h
    refine ⟨Xs, st, r.rel, ?_⟩
    cases e : it st with
    | ok ds st1 =>
      rw [e] at h
      exact fun J H1 C p S c => for_of hS hP S (.of r p) c h
    | ex c d st1 =>
      rw [e] at h
      exact exS_of r h
    | no =>
      rw [e] at h
      exact h
/-- while, so many turns at most -/
def sWhN (t : EvT) (body : EvS) : Nat → EvS
  | 0, _ => .no
  | n + 1, st => (t st).toS fun c st1 => if c = true then (match body st1 with
    | .nx s => sWhN t body n s
    | .ct s => sWhN t body n s
    | .bk s => .nx s
    | o => o) else .nx st1
open Classical in
noncomputable def sWh (t : EvT) (body : EvS) : EvS := fun st => if h : ∃ n, sWhN t body n st ≠ .no then sWhN t body (choose h) st else .no
theorem toS_no {α : Type} {o : O α} {f : α → List Sl → SO} (h : o.toS f ≠ .no) : o ≠ .no := fun e => h (by rw [e]; rfl)
theorem sWhN_more {t : EvT} {body : EvS} : ∀ {n m : Nat} {st : List Sl}, n ≤ m → sWhN t body n st ≠ .no → sWhN t body m st = sWhN t body n st
  | 0, _, _, _, h => absurd rfl h
  | n + 1, 0, _, hm, _ => absurd hm (by omega)
  | n + 1, m + 1, st, hm, h => by
    show (t st).toS _ = (t st).toS _
    have h' : (t st).toS (fun c st1 => if c = true then (match body st1 with | .nx s => sWhN t body n s | .ct s => sWhN t body n s | .bk s => .nx s | o => o) else .nx st1) ≠ .no := h
    cases et : t st with
    | ok c st1 =>
      rw [et] at h'
      cases c with
      | false => rfl
      | true =>
        have h2 : (match body st1 with | .nx s => sWhN t body n s | .ct s => sWhN t body n s | .bk s => .nx s | o => o) ≠ SO.no := h'
        show (match body st1 with | .nx s => sWhN t body m s | .ct s => sWhN t body m s | .bk s => .nx s | o => o) = (match body st1 with | .nx s => sWhN t body n s | .ct s => sWhN t body n s | .bk s => .nx s | o => o)
        cases eb : body st1 with
        | nx s => rw [eb] at h2; exact sWhN_more (by omega) h2
        | ct s => rw [eb] at h2; exact sWhN_more (by omega) h2
        | _ => rfl
    | ex c d st1 => rfl
    | no => rfl
/-- a run that ends is the loop's -/
theorem sWh_eq {t : EvT} {body : EvS} {n : Nat} {st : List Sl} {o : SO} (h : sWhN t body n st = o) (ho : o ≠ .no) : sWh t body st = o := by
  have ex : ∃ n, sWhN t body n st ≠ .no := ⟨n, by rw [h]; exact ho⟩
  unfold sWh
  rw [dif_pos ex]
  have hc := Classical.choose_spec ex
  rcases Nat.le_total (Classical.choose ex) n with hl | hl
  · rw [← h, sWhN_more hl hc]
  · rw [sWhN_more hl (by rw [h]; exact ho), h]
theorem xs_while {c : Expr} {body : List Stmt} {t : EvT} {eb : EvS} (hc : PT X c (tT X.K w t)) (hb : PSs X body (tS X.K w P eb)) (hp : PassesOwn (model X.prog X.w) X.A X.env X.xe) : PS X (.While c body [] pos) (tS X.K w P (sWh t eb)) :=
  PS.of (ps_while hp hc hb) fun Dn σ H h => by
    obtain ⟨Xs, B, st, r, h⟩ := h
    unfold sWh at h
    split at h
    · next ex =>
      refine ⟨fun m σ' H' => ∃ st', PostS X.K Xs P B st σ H st' σ' H' ∧ RdS X.K w Xs P B st σ H Dn (sWhN t eb m st'), ⟨_, st, PostS.refl r, h⟩, ?_⟩
      rintro m σ' H' ⟨st', p', h'⟩
      cases m with
      | zero => exact h'.elim
      | succ m =>
        have h2 : RdS X.K w Xs P B st σ H Dn ((t st').toS fun c st1 => if c = true then (match eb st1 with | .nx s => sWhN t eb m s | .ct s => sWhN t eb m s | .bk s => .nx s | o => o) else .nx st1) := h'
        refine ⟨Xs, st', p'.rel.rel, ?_⟩
        cases et : t st' with
        | no => rw [et] at h2; exact h2.elim
        | ex c d st1 =>
          rw [et] at h2
          exact exS_of p'.rel (RdS.on p' (o := .ex c d st1) h2)
        | ok b st1 =>
          rw [et] at h2
          intro H1 q1
          have p1 := p'.trans (.of p'.rel q1)
          cases b with
          | false => exact iteF (h2 σ' H1 p1)
          | true =>
            refine iteT ⟨fun σ2 H2 => ∃ st', PostS X.K Xs P B st σ H st' σ2 H2 ∧ RdS X.K w Xs P B st σ H Dn (sWhN t eb m st'), fun σ2 H2 q => ⟨m, Nat.lt_succ_self m, q⟩, Xs, B, st1, p1.rel, ?_⟩
            have h3 : RdS X.K w Xs P B st σ H Dn (match eb st1 with | .nx s => sWhN t eb m s | .ct s => sWhN t eb m s | .bk s => .nx s | o => o) := h2
            cases e2 : eb st1 with
            | nx s => rw [e2] at h3; exact fun σ4 H4 p5 => ⟨s, p1.trans p5, h3⟩
            | ct s => rw [e2] at h3; exact fun σ4 H4 p5 => ⟨s, p1.trans p5, h3⟩
            | bk s => rw [e2] at h3; exact fun σ4 H4 p5 => h3 σ4 H4 (p1.trans p5)
            | rt r s => rw [e2] at h3; exact fun v σ4 H4 p5 => h3 v σ4 H4 (p1.trans p5)
            | ex c d s => rw [e2] at h3; exact fun dx v σ4 H4 p5 => h3 dx v σ4 H4 (p1.trans p5)
            | no => rw [e2] at h3; exact h3.elim
    · exact h.elim
end
end TX

end

section
set_option Elab.async false
set_option linter.all false
set_option maxRecDepth 100000
set_option maxHeartbeats 2000000
namespace TX
open PySem L2 Evl PyProof.Rows

/-! ### what a def promises: from its arguments' slots to a value -/
def spF (K : PySem.W.Frag) (cl : Nat → Addr) (φ : EvE) : Sp := fun vs H Q E => tE K ⟨fun c dx _ H' => E c dx H', cl⟩ φ (vs.map some) H Q
/-- the places of the lists that are handed in to be written -/
def owsAt : Nat → List Sl → List Nat
  | _, [] => []
  | n, .ow _ :: r => n :: owsAt (n + 1) r
  | n, _ :: r => owsAt (n + 1) r
theorem owsAt_mem : ∀ {n : Nat} {st : List Sl} {i : Nat} {ds : List D}, st[i]? = some (.ow ds) → n + i ∈ owsAt n st
  | n, s :: r, 0, ds, h => by
    simp at h
    subst h
    exact List.mem_cons_self
  | n, s :: r, i + 1, ds, h => by
    have ih := owsAt_mem (n := n + 1) (st := r) (i := i) (ds := ds) (by simpa using h)
    have e : n + 1 + i = n + (i + 1) := by omega
    rw [e] at ih
    cases s with
    | ow _ => exact List.mem_cons_of_mem _ ih
    | un => exact ih
    | pu _ => exact ih
  | _, [], _, _, h => by simp at h
theorem owsAt_of : ∀ {n : Nat} {st : List Sl} {j : Nat}, j ∈ owsAt n st → ∃ i ds, j = n + i ∧ st[i]? = some (.ow ds)
  | n, [], j, h => by cases h
  | n, s :: r, j, h => by
    cases s with
    | ow ds =>
      rcases List.mem_cons.mp h with e | h
      · exact ⟨0, ds, by omega, rfl⟩
      · obtain ⟨i, es, e1, e2⟩ := owsAt_of h
        exact ⟨i + 1, es, by omega, by simpa using e2⟩
    | un =>
      obtain ⟨i, es, e1, e2⟩ := owsAt_of (show j ∈ owsAt (n + 1) r from h)
      exact ⟨i + 1, es, by omega, by simpa using e2⟩
    | pu _ =>
      obtain ⟨i, es, e1, e2⟩ := owsAt_of (show j ∈ owsAt (n + 1) r from h)
      exact ⟨i + 1, es, by omega, by simpa using e2⟩
/-- the arguments' slots behind a run: the written ones as they stand -/
def fixS : List Sl → List Sl → Option (List Sl)
  | [], _ => some []
  | .ow _ :: st, .ow ds :: st' => (fixS st st').map (.ow ds :: ·)
  | .ow _ :: _, _ => none
  | s :: st, _ :: st' => (fixS st st').map (s :: ·)
  | _ :: _, [] => none
structure FixR (st st' s : List Sl) : Prop where
  len : s.length = st.length
  ow : ∀ (i : Nat) (ds : List D), s[i]? = some (.ow ds) → st'[i]? = some (.ow ds) ∧ ∃ ds', st[i]? = some (.ow ds')
  ow' : ∀ (i : Nat) (ds : List D), st[i]? = some (.ow ds) → ∃ ds', s[i]? = some (.ow ds')
  pu : ∀ (i : Nat) (d : D), s[i]? = some (.pu d) → st[i]? = some (.pu d)
theorem FixR.cons {st st' s : List Sl} {a b c : Sl} (h : FixR st st' s) (h1 : ∀ ds, c = .ow ds → b = .ow ds ∧ ∃ ds', a = .ow ds') (h2 : ∀ ds, a = .ow ds → ∃ ds', c = .ow ds') (h3 : ∀ d, c = .pu d → a = .pu d) : FixR (a :: st) (b :: st') (c :: s) where
  len := by rw [List.length_cons, List.length_cons, h.len]
  ow := fun i ds e => by
    cases i with
    | zero =>
      simp at e
      obtain ⟨q1, ds', q2⟩ := h1 ds e
      exact ⟨by simp [q1], ds', by simp [q2]⟩
    | succ i => simpa using h.ow i ds (by simpa using e)
  ow' := fun i ds e => by
    cases i with
    | zero =>
      simp at e
      obtain ⟨ds', q2⟩ := h2 ds e
      exact ⟨ds', by simp [q2]⟩
    | succ i => simpa using h.ow' i ds (by simpa using e)
  pu := fun i d e => by
    cases i with
    | zero =>
      simp at e
      simp [h3 d e]
    | succ i => simpa using h.pu i d (by simpa using e)
theorem fixS_of : ∀ {st st' s : List Sl}, fixS st st' = some s → FixR st st' s
  | [], st', s, h => by
    unfold fixS at h
    cases h
    exact ⟨rfl, fun i ds e => by simp at e, fun i ds e => by simp at e, fun i d e => by simp at e⟩
  | a :: st, [], s, h => by cases a <;> cases h
  | a :: st, b :: st', s, h => by
    have go : ∀ (c : Sl), (fixS st st').map (c :: ·) = some s → ∃ t, fixS st st' = some t ∧ s = c :: t := fun c e => by
      cases q : fixS st st' with
      | none => rw [q] at e; cases e
      | some t => rw [q] at e; cases e; exact ⟨t, rfl, rfl⟩
    cases a with
    | ow ds0 =>
      cases b with
      | ow ds =>
        obtain ⟨t, e1, rfl⟩ := go _ h
        exact (fixS_of e1).cons (fun es e => ⟨e, _, rfl⟩) (fun es e => ⟨_, rfl⟩) (fun d e => by cases e)
      | un => cases h
      | pu _ => cases h
    | un =>
      obtain ⟨t, e1, rfl⟩ := go .un h
      exact (fixS_of e1).cons (fun es e => by cases e) (fun es e => by cases e) (fun d e => e)
    | pu d0 =>
      obtain ⟨t, e1, rfl⟩ := go (.pu d0) h
      exact (fixS_of e1).cons (fun es e => by cases e) (fun es e => by cases e) (fun d e => e)
/-- the same lists are owned at the same places -/
theorem ownd_like : ∀ {st s : List Sl} {σ : L2.St}, (∀ (i : Nat), (∃ ds, st[i]? = some (.ow ds)) ↔ ∃ ds, s[i]? = some (.ow ds)) → s.length = st.length → ownd s σ = ownd st σ
  | [], [], _, _, _ => by unfold ownd; rfl
  | [], _ :: _, _, _, h => by simp at h
  | _ :: _, [], _, _, h => by simp at h
  | a :: st, c :: s, [], _, _ => by rw [ownd_nil_r, ownd_nil_r]
  | a :: st, c :: s, x :: σ, h, hl => by
    have ih := ownd_like (st := st) (s := s) (σ := σ) (fun i => by simpa using h (i + 1)) (by simpa using hl)
    have h0 := h 0
    cases a with
    | ow ds =>
      obtain ⟨ds', e⟩ := h0.mp ⟨ds, rfl⟩
      simp at e
      subst e
      show ownd (.ow ds' :: s) (x :: σ) = ownd (.ow ds :: st) (x :: σ)
      cases x with
      | none => exact ih
      | some v =>
        cases v with
        | ref p => exact congrArg (p :: ·) ih
        | _ => exact ih
    | un =>
      cases c with
      | ow ds => obtain ⟨_, e⟩ := h0.mpr ⟨ds, rfl⟩; simp at e
      | un => exact ih
      | pu _ => exact ih
    | pu d =>
      cases c with
      | ow ds => obtain ⟨_, e⟩ := h0.mpr ⟨ds, rfl⟩; simp at e
      | un => exact ih
      | pu _ => exact ih
section
variable {K : PySem.W.Frag} {Xs Xs' : List Addr} {st st' s : List Sl} {σ0 σ' : L2.St} {H H' : Hp}
theorem FixR.rel (F : FixR st st' s) (r0 : Rel K Xs st σ0 H) (ex : Ex (vis Xs st σ0 H) (vis Xs' st' σ' H')) (r1 : Rel K Xs' st' σ' H') (keep : ∀ (i : Nat) (ds : List D), st[i]? = some (.ow ds) → σ'[i]? = σ0[i]?) :
    Rel K Xs' s σ0 H' ∧ Ex (vis Xs' st' σ' H') (vis Xs' s σ0 H') := by
  have sub : ∀ a, a ∈ ownd s σ0 → a ∈ ownd st' σ' := fun a ha => by
    obtain ⟨i, ds, h1, h2⟩ := ownd_of ha
    obtain ⟨h3, ds', h4⟩ := F.ow i ds h1
    exact ownd_mem h3 ((keep i ds' h4).trans h2)
  have exs : Ex (vis Xs' st' σ' H') (vis Xs' s σ0 H') := msk_sub fun a ha => by
    rcases List.mem_append.mp ha with ha | ha
    · exact List.mem_append_left _ (sub a ha)
    · exact List.mem_append_right _ ha
  have eo : ownd s σ0 = ownd st σ0 := ownd_like (fun i => ⟨fun ⟨ds, h⟩ => F.ow' i ds h, fun ⟨ds, h⟩ => (F.ow i ds h).2⟩) F.len
  refine ⟨⟨by rw [F.len]; exact r0.len, ?_, fun i d hi => ?_, fun i ds hi => ?_, r1.xs⟩, exs⟩
  · refine List.nodup_append.mpr ⟨?_, (List.nodup_append.mp r1.nd).2.1, fun a ha b hb e => ?_⟩
    · rw [eo]
      exact (List.nodup_append.mp r0.nd).1
    · exact (List.nodup_append.mp r1.nd).2.2 a (sub a ha) b hb e
  · obtain ⟨v, q1, q2⟩ := r0.pu i d (F.pu i d hi)
    exact ⟨v, q1, dp_mono exs (dp_mono ex q2)⟩
  · obtain ⟨h3, ds', h4⟩ := F.ow i ds hi
    obtain ⟨p, vs, q1, q2, q3⟩ := r1.ow i ds h3
    exact ⟨p, vs, (keep i ds' h4).symm.trans q1, q2, dpAll_mono exs q3⟩
end
/-- a body's run from the arguments' slots -/
def defEv (n np : Nat) (P : List Nat) (eb : EvS) : EvE := fun st => if st.length = np ∧ owsAt 0 st = P then (match eb (st ++ List.replicate (n - np) .un) with
  | .nx st' => match fixS st st' with
    | some s => .ok (.non, false) s
    | none => .no
  | .rt z st' => match fixS st st' with
    | some s => .ok z s
    | none => .no
  | .ex c d st' => match fixS st st' with
    | some s => .ex c d s
    | none => .no
  | _ => .no) else .no
theorem ownd_app : ∀ {st : List Sl} {σ : L2.St} (k : Nat), st.length = σ.length → ownd (st ++ List.replicate k .un) (σ ++ List.replicate k none) = ownd st σ
  | [], [], k, _ => by
    show ownd (List.replicate k .un) (List.replicate k none) = ownd [] []
    induction k with
    | zero => rfl
    | succ k ih => exact ih
  | [], _ :: _, _, h => by simp at h
  | _ :: _, [], _, h => by simp at h
  | a :: st, x :: σ, k, h => by
    have ih := ownd_app (st := st) (σ := σ) k (by simpa using h)
    show ownd (a :: (st ++ List.replicate k .un)) (x :: (σ ++ List.replicate k none)) = ownd (a :: st) (x :: σ)
    cases a with
    | un => exact ih
    | pu _ => exact ih
    | ow ds =>
      cases x with
      | none => exact ih
      | some v =>
        cases v with
        | ref p => exact congrArg (p :: ·) ih
        | _ => exact ih
theorem get_app {st : List Sl} {k i : Nat} {s : Sl} (hs : s ≠ .un) (h : (st ++ List.replicate k .un)[i]? = some s) : st[i]? = some s := by
  by_cases hi : i < st.length
  · rw [List.getElem?_append_left hi] at h
    exact h
  · rw [List.getElem?_append_right (by omega), List.getElem?_replicate] at h
    split at h
    · cases h; exact absurd rfl hs
    · cases h
theorem get_app_l {α : Type} {a b : List α} {i : Nat} {x : α} (h : a[i]? = some x) : (a ++ b)[i]? = some x := by
  rw [List.getElem?_append_left (List.getElem?_eq_some_iff.mp h).1]
  exact h
theorem start_eq (N : List Str) (vs : List V) : L2.start N vs = vs.map some ++ List.replicate (N.length - vs.length) none := rfl
section
variable {K : PySem.W.Frag} {cl : Nat → Addr} {N ps : List Str} {P : List Nat} {eb : EvS} {vs : List V} {H : Hp} {Q : VK} {E : XK}
theorem spF_len {n np : Nat} (h : spF K cl (defEv n np P eb) vs H Q E) : vs.length = np := by
  obtain ⟨Xs, st, rel, h⟩ := h
  unfold defEv at h
  split at h
  · next hc => rw [← hc.1, rel.len, List.length_map]
  · exact h.elim
theorem def_reads (h : spF K cl (defEv N.length ps.length P eb) vs H Q E) : tS K ⟨fun c dx _ H' => E c dx H', cl⟩ P eb { nx := fun _ H' => Q .non H', rt := Q } (L2.start N vs) H := by
  obtain ⟨Xs, st, rel, h⟩ := h
  unfold defEv at h
  split at h
  · next hc =>
    obtain ⟨hl, hP⟩ := hc
    have hv : vs.length = ps.length := by rw [← hl, rel.len, List.length_map]
    rw [start_eq, hv]
    have eo := ownd_app (st := st) (σ := vs.map some) (N.length - ps.length) rel.len
    have ev : ∀ Ys, vis Ys (st ++ List.replicate (N.length - ps.length) .un) (vs.map some ++ List.replicate (N.length - ps.length) none) H = vis Ys st (vs.map some) H := fun Ys => by
      show msk (ownd _ _ ++ Ys) H = _
      rw [eo]
    have R0 : RelS K Xs P H (st ++ List.replicate (N.length - ps.length) .un) (vs.map some ++ List.replicate (N.length - ps.length) none) H := by
      refine ⟨⟨by simp [rel.len], by show (ownd _ _ ++ Xs).Nodup; rw [eo]; exact rel.nd, fun i d hi => ?_, fun i ds hi => ?_, rel.xs⟩, fun i ds p hi h1 _ => ?_, fun a ha => ha⟩
      · obtain ⟨v, q1, q2⟩ := rel.pu i d (get_app (by simp) hi)
        exact ⟨v, get_app_l q1, by rw [ev]; exact q2⟩
      · obtain ⟨p, us, q1, q2, q3⟩ := rel.ow i ds (get_app (by simp) hi)
        exact ⟨p, us, get_app_l q1, q2, by rw [ev]; exact q3⟩
      · have := owsAt_mem (n := 0) (get_app (by simp) h1)
        rw [hP] at this
        rw [Nat.zero_add] at this
        exact absurd this hi
    refine ⟨Xs, H, _, R0, ?_⟩
    have keep : ∀ {st' : List Sl} {σ' : L2.St} {H' : Hp}, PostS K Xs P H (st ++ List.replicate (N.length - ps.length) .un) (vs.map some ++ List.replicate (N.length - ps.length) none) H st' σ' H' → ∀ (i : Nat) (ds : List D), st[i]? = some (.ow ds) → σ'[i]? = (vs.map some)[i]? := fun {st' σ' H'} p i ds hi => by
      have hm := owsAt_mem (n := 0) hi
      rw [hP, Nat.zero_add] at hm
      have hlt : i < (vs.map some).length := by rw [← rel.len]; exact (List.getElem?_eq_some_iff.mp hi).1
      rw [p.keep i hm, List.getElem?_append_left hlt]
    have fin : ∀ {st' s : List Sl} {σ' : L2.St} {H' : Hp}, fixS st st' = some s → PostS K Xs P H (st ++ List.replicate (N.length - ps.length) .un) (vs.map some ++ List.replicate (N.length - ps.length) none) H st' σ' H' → Post K Xs st (vs.map some) H s H' ∧ Ex (vis Xs st' σ' H') (vis Xs s (vs.map some) H') := fun {st' s σ' H'} hf p => by
      have F := fixS_of hf
      have e0 : Ex (vis Xs st (vs.map some) H) (vis Xs st' σ' H') := by rw [← ev Xs]; exact p.ex
      obtain ⟨q1, q2⟩ := F.rel rel e0 p.rel.rel (keep p)
      exact ⟨⟨q1, e0.trans q2, p.xs, p.dom, fun i ds h => (F.ow i ds h).2⟩, q2⟩
    have finV : ∀ {st' s : List Sl} {σ' : L2.St} {H' : Hp} {v : V} {z : R1}, fixS st st' = some s → PostS K Xs P H (st ++ List.replicate (N.length - ps.length) .un) (vs.map some ++ List.replicate (N.length - ps.length) none) H st' σ' H' → ValR K Xs H st' σ' H' v z → Val K Xs (vs.map some) H s H' v z := fun {st' s σ' H' v z} hf p q => by
      obtain ⟨P1, e1⟩ := fin hf p
      refine ⟨dp_mono e1 q.dp, fun hz => ?_⟩
      obtain ⟨a, us, ds, h1, h2, h3, h4, h5, h6⟩ := q.fr hz
      have e0 : Ex (vis Xs st (vs.map some) H) (vis (a :: Xs) st' σ' H') := fun b o hb => by
        have hb2 : vis Xs st' σ' H' b = some o := p.ex b o (by rw [ev Xs]; exact hb)
        obtain ⟨n1, n2⟩ := msk_some hb2
        have ab : b ≠ a := fun z => by
          have := (msk_some hb).2
          rw [z, h3] at this
          cases this
        show msk (ownd st' σ' ++ a :: Xs) H' b = some o
        rw [msk_out]
        · exact n2
        · intro hx
          rcases List.mem_append.mp hx with hx | hx
          · exact n1 (List.mem_append_left _ hx)
          · rcases List.mem_cons.mp hx with hx | hx
            · exact ab hx
            · exact n1 (List.mem_append_right _ hx)
      obtain ⟨q1, q2⟩ := (fixS_of hf).rel rel e0 h6 (keep p)
      exact ⟨a, us, ds, h1, h2, h3, h4, dpAll_mono q2 h5, q1⟩
    cases e : eb (st ++ List.replicate (N.length - ps.length) .un) with
    | nx st' =>
      rw [e] at h
      intro σ' H' p
      dsimp only at h
      split at h
      · next s hf =>
        obtain ⟨P1, e1⟩ := fin hf p
        exact h .non H' P1 (.old .non)
      · exact h.elim
    | rt z st' =>
      rw [e] at h
      intro v σ' H' p q
      dsimp only at h
      split at h
      · next s hf => exact h v H' (fin hf p).1 (finV hf p q)
      · exact h.elim
    | ex c d st' =>
      rw [e] at h
      intro dx v σ' H' p h1 h2
      dsimp only at h
      split at h
      · next s hf =>
        obtain ⟨P1, e1⟩ := fin hf p
        exact h dx v H' P1 (e1 _ _ h1) (dp_mono e1 h2)
      · exact h.elim
    | bk st' => rw [e] at h; exact h.elim
    | ct st' => rw [e] at h; exact h.elim
    | no => rw [e] at h; exact h.elim
  · exact h.elim
end
section
variable {P : Program} {w : World} {K : PySem.W.Frag} {mg : Str → Option Value} {base : Heap}
/-- a def keeps the promise that its body's run tells -/
theorem def_ok {x qual : Str} {st : Stmt} {f : Addr} {fd : FuncData} {N ps : List Str} {k : Nat} {cl : Nat → Addr} {Ps : List Nat} {eb : EvS} (F : Fun K x qual st f fd) (S : FnScope N ps (defScope st))
    (hb : ∀ (cdv : Value) (A : Around) (outer : List Env) (s : Shared) (H : Hp) (E : XK), Room k (A.deeper (envOfC qual (defScope st) s.heap.objs.size f cdv)) →
      PSs (cxOf (L2.CX P w) P w K mg base N qual (defScope st) f cdv A outer s H E) (defBody st) (tS K ⟨fun c dx _ H' => E c dx H', cl⟩ Ps eb)) :
    FnOk P w K mg base (L2.CX P w) (k + 1) f fd ps (spF K cl (defEv N.length ps.length Ps eb)) :=
  F.okX S (fun vs H Q E h => spF_len h) fun cdv A outer s H vs Q E hr h => ⟨_, hb cdv A outer s H E hr, def_reads h⟩
/-- the run may be told otherwise -/
theorem fn_as {f : Addr} {fd : FuncData} {ps : List Str} {k : Nat} {cl : Nat → Addr} {φ ψ : EvE} (F : FnOk P w K mg base (L2.CX P w) k f fd ps (spF K cl φ)) (h : ∀ st, ψ st ≠ .no → φ st = ψ st) : FnOk P w K mg base (L2.CX P w) k f fd ps (spF K cl ψ) :=
  F.imp fun vs H Q E q => by
    obtain ⟨Xs, st, rel, q⟩ := q
    refine ⟨Xs, st, rel, ?_⟩
    rw [h st]
    · exact q
    · intro e
      rw [e] at q
      exact q
end
end TX

end

section
set_option Elab.async false
set_option linter.all false
set_option maxRecDepth 100000
set_option maxHeartbeats 2000000
namespace TX
open PySem L2 Evl PyProof.Rows

/-! ### calls whose arguments are values -/
section
variable {K : PySem.W.Frag} {Xs Ys : List Addr} {st : List Sl} {σ : L2.St} {H : Hp}
def pus (ds : List D) : List Sl := ds.map .pu
theorem ownd_pus : ∀ (ds : List D) (σ : L2.St), ownd (pus ds) σ = []
  | [], σ => by unfold pus; unfold ownd; rfl
  | d :: ds, [] => ownd_nil_r _
  | d :: ds, x :: σ => by show ownd (pus ds) σ = []; exact ownd_pus ds σ
theorem rel_pus {M : List Addr} : ∀ {ds : List D} {vs : List V}, DqAll K (msk M H) vs ds → M.Nodup → (∀ x ∈ M, H x ≠ none) → Rel K M (pus ds) (vs.map some) H := fun {ds vs} h hn hx => by
  have ev : vis M (pus ds) (vs.map some) H = msk M H := by show msk (ownd _ _ ++ M) H = _; rw [ownd_pus]; rfl
  refine ⟨by simp [pus, dpAll_len h], by show (ownd _ _ ++ M).Nodup; rw [ownd_pus]; exact hn, fun i d hi => ?_, fun i es hi => ?_, hx⟩
  · unfold pus at hi
    rw [List.getElem?_map] at hi
    cases e : ds[i]? with
    | none => rw [e] at hi; cases hi
    | some d' =>
      rw [e] at hi
      cases hi
      obtain ⟨v, h1, h2⟩ := dpAll_getD h e
      exact ⟨v, by rw [List.getElem?_map, h1]; rfl, by rw [ev]; exact h2⟩
  · unfold pus at hi
    rw [List.getElem?_map] at hi
    cases e : ds[i]? with
    | none => rw [e] at hi; cases hi
    | some d' => rw [e] at hi; cases hi
theorem rel_dom (r : Rel K Xs st σ H) : ∀ x ∈ hid Xs st σ, H x ≠ none := fun x hx => by
  rcases List.mem_append.mp hx with h | h
  · obtain ⟨vs, e⟩ := rel_ownd r h
    rw [e]; simp
  · exact r.xs x h
theorem noOw {s a : List Sl} (ha : ∀ (i : Nat) (ds : List D), a[i]? ≠ some (.ow ds)) (h : OwLess a s) : ∀ σ : L2.St, ownd s σ = [] := fun σ => by
  cases e : ownd s σ with
  | nil => rfl
  | cons p r =>
    obtain ⟨i, ds, h1, _⟩ := ownd_of (p := p) (st := s) (σ := σ) (by rw [e]; exact List.mem_cons_self)
    obtain ⟨ds', h2⟩ := h i ds h1
    exact absurd h2 (ha i ds')
theorem pus_no (ds : List D) : ∀ (i : Nat) (es : List D), (pus ds)[i]? ≠ some (.ow es) := fun i es h => by
  unfold pus at h
  rw [List.getElem?_map] at h
  cases e : ds[i]? with
  | none => rw [e] at h; cases h
  | some d' => rw [e] at h; cases h
/-- behind a call whose arguments are values: the caller's slots stand -/
theorem rel_back {ds : List D} {σa : L2.St} {a' : List Sl} {H' : Hp} {L : List Addr} (r : Rel K Xs st σ H) (p : Post K (hid Xs st σ) (pus ds) σa H a' H') (q : Rel K (L ++ hid Xs st σ) a' σa H') (hL : ∀ x ∈ L, H x = none) :
    Rel K (L ++ Xs) st σ H' ∧ vis (L ++ hid Xs st σ) a' σa H' = vis (L ++ Xs) st σ H' ∧ Ex (vis Xs st σ H) (vis (L ++ Xs) st σ H') := by
  have o1 := noOw (pus_no ds) p.ol σa
  have e1 : vis (hid Xs st σ) (pus ds) σa H = vis Xs st σ H := by show msk (ownd _ _ ++ hid Xs st σ) H = _; rw [ownd_pus]; rfl
  have e2 : vis (L ++ hid Xs st σ) a' σa H' = vis (L ++ Xs) st σ H' := by
    show msk (ownd a' σa ++ (L ++ (ownd st σ ++ Xs))) H' = msk (ownd st σ ++ (L ++ Xs)) H'
    rw [o1]
    refine msk_congr fun a => ?_
    simp only [List.nil_append, List.mem_append]
    constructor <;> (rintro (h | h | h) <;> simp [h])
  have e3 : vis (hid Xs st σ) a' σa H' = vis Xs st σ H' := by show msk (ownd _ _ ++ hid Xs st σ) H' = _; rw [o1]; rfl
  have ex0 : Ex (vis Xs st σ H) (vis Xs st σ H') := by rw [← e1, ← e3]; exact p.ex
  have ex : Ex (vis Xs st σ H) (vis (L ++ Xs) st σ H') := fun b o hb => by
    obtain ⟨n1, n2⟩ := msk_some (ex0 b o hb)
    have nl : b ∉ L := fun z => by
      have := (msk_some hb).2
      rw [hL b z] at this
      cases this
    show msk (ownd st σ ++ (L ++ Xs)) H' b = some o
    rw [msk_out]
    · exact n2
    · intro hx
      simp only [List.mem_append] at hx
      rcases hx with h | h | h
      · exact n1 (List.mem_append_left _ h)
      · exact nl h
      · exact n1 (List.mem_append_right _ h)
  refine ⟨⟨r.len, ?_, fun i d hi => ?_, fun i es hi => ?_, fun x hx => ?_⟩, e2, ex⟩
  · have nd := q.nd
    have nd2 : (ownd a' σa ++ (L ++ (ownd st σ ++ Xs))).Nodup := nd
    rw [o1, List.nil_append] at nd2
    show (ownd st σ ++ (L ++ Xs)).Nodup
    have pm : (L ++ (ownd st σ ++ Xs)).Perm (ownd st σ ++ (L ++ Xs)) := by
      rw [← List.append_assoc, ← List.append_assoc]
      exact List.Perm.append_right Xs List.perm_append_comm
    exact pm.nodup_iff.mp nd2
  · obtain ⟨v, q1, q2⟩ := r.pu i d hi
    exact ⟨v, q1, dp_mono ex q2⟩
  · obtain ⟨a, us, q1, q2, q3⟩ := r.ow i es hi
    exact ⟨a, us, q1, (p.xs a (List.mem_append_left _ (ownd_mem hi q1))).trans q2, dpAll_mono ex q3⟩
  · exact q.xs x (by
      rcases List.mem_append.mp hx with h | h
      · exact List.mem_append_left _ h
      · exact List.mem_append_right _ (List.mem_append_right _ h))
end
def eCallP (a : EvA) (pm : List D → List D) (φ : EvE) : EvE := fun st => (a st).bind fun ds st1 => match φ (pus (pm ds)) with
  | .ok z _ => .ok z st1
  | .ex c d _ => .ex c d st1
  | .no => .no
theorem callP_of {K : PySem.W.Frag} {w : Wi} {Xs : List Addr} {st st1 : List Sl} {σ : L2.St} {H H1 : Hp} {ds : List D} {vs : List V} {φ : EvE} {Q : VK} (p1 : Post K Xs st σ H st1 H1) (hv : DqAll K (vis Xs st1 σ H1) vs ds)
    (h : Rdo (match φ (pus ds) with | .ok z _ => .ok z st1 | .ex c d _ => .ex c d st1 | .no => (.no : O R1)) (fun z st' => ∀ v H', Post K Xs st σ H st' H' → Val K Xs σ H st' H' v z → Q v H') (exW K w Xs st σ H)) :
    spF K w.cl φ vs H1 Q (fun c dx H' => w.W c dx σ H') := by
  refine ⟨hid Xs st1 σ, pus ds, rel_pus hv p1.rel.nd (rel_dom p1.rel), ?_⟩
  have ea : vis (hid Xs st1 σ) (pus ds) (vs.map some) H1 = vis Xs st1 σ H1 := by show msk (ownd _ _ ++ hid Xs st1 σ) H1 = _; rw [ownd_pus]; rfl
  have post : ∀ {a' : List Sl} {H' : Hp}, Post K (hid Xs st1 σ) (pus ds) (vs.map some) H1 a' H' → Post K Xs st σ H st1 H' ∧ vis (hid Xs st1 σ) a' (vs.map some) H' = vis Xs st1 σ H' := fun {a' H'} p => by
    obtain ⟨q1, q2, q3⟩ := rel_back (L := []) p1.rel p p.rel (fun _ h => by cases h)
    exact ⟨p1.trans ⟨q1, q3, fun x hx => p.xs x (List.mem_append_right _ hx), p.dom, OwLess.refl _⟩, q2⟩
  cases e : φ (pus ds) with
  | ok z a' =>
    rw [e] at h
    intro v H' p q
    obtain ⟨P, e2⟩ := post p
    refine h v H' P ⟨by rw [← e2]; exact q.dp, fun hz => ?_⟩
    obtain ⟨b, us, es, h1, h2, h3, h4, h5, h6⟩ := q.fr hz
    obtain ⟨q1, q2, _⟩ := rel_back (L := [b]) p1.rel p h6 (fun x hx => by rw [List.mem_singleton.mp hx]; exact h3)
    have q2' : vis (b :: hid Xs st1 σ) a' (vs.map some) H' = vis (b :: Xs) st1 σ H' := q2
    exact ⟨b, us, es, h1, h2, p1.dom b h3, h4, by rw [← q2']; exact h5, q1⟩
  | ex c d a' =>
    rw [e] at h
    intro dx v H' p h1 h2
    obtain ⟨P, e2⟩ := post p
    exact h dx v H' P (by rw [← e2]; exact h1) (by rw [← e2]; exact h2)
  | no =>
    rw [e] at h
    exact h
section
variable {X : Cx} {w : Wi} {x : Str} {p pos : Pos} {e : Expr} {es : List Expr} {ea : EvA} {k : Nat} {f : Addr} {fd : FuncData} {ps : List Str} {φ : EvE}
theorem x_call (F : FnOk X.prog X.w X.K X.mg X.base (L2.CX X.prog X.w) k f fd ps (spF X.K w.cl φ)) (hr : Room k X.A) (hm : X.mg x = some (.ref f)) (hk : PySem.W.keepIn X.K (.ref f) = true) (hb : Binds X.K fd ps []) (tk : Takes X w.W) (ha : PA X (e :: es) (tA X.K w ea))
    (hg : Gl X x := by rfl) (hdb : (x == ("__debug__" : Str)) = false := by decide) (he : starEach (e :: es) X.env = (false, eval e X.env) :: starEach es X.env := by rfl) (hpl : (backTo pos (starEach es X.env)).any (·.1) = false := by rfl) :
    PE X (.Call (.Name x p) (e :: es) [] pos) (tE X.K w (eCallP ea id φ)) :=
  PE.of (pe_callS (E := WE w.W) F hr hg hm hk hb (fun σ => passAt tk σ) ha hdb he hpl) fun σ H Q h => by
    obtain ⟨Xs, st, rel, h⟩ := h
    refine ⟨Xs, st, rel, ?_⟩
    unfold eCallP at h
    cases e : ea st with
    | ok ds st1 => rw [e] at h; exact fun vs H1 p1 hv => callP_of p1 hv h
    | ex c d st1 => rw [e] at h; exact h
    | no => rw [e] at h; exact h
/-- how a call with keywords binds: n things by place, then the keywords ks; pm puts them in the parameters' order -/
structure KwB (fd : FuncData) (ps ks : List Str) (n : Nat) (pm : {α : Type} → List α → List α) : Prop where
  to : ∀ (s : Shared) (us ws : List Value), us.length = n → ws.length = ks.length → BindsTo s fd ⟨us, ks.zip ws⟩ (ps.zip (pm (us ++ ws)))
  all : ∀ {α β : Type} (R : α → β → Prop) (as : List α) (bs : List β), as.length = n + ks.length → Paired R as bs → Paired R (pm as) (pm bs)
  dq : ∀ (K : PySem.W.Frag) (H : Hp) (vs : List V) (ds : List D), vs.length = n + ks.length → DqAll K H vs ds → DqAll K H (pm vs) (pm ds)
def eCallK (a b : EvA) (m n : Nat) (pm : List D → List D) (φ : EvE) : EvE := fun st => (a st).bind fun ds st1 => (b st1).bind fun es st2 => if ds.length = n ∧ es.length = m then (match φ (pus (pm (ds ++ es))) with
  | .ok z _ => .ok z st2
  | .ex c d _ => .ex c d st2
  | .no => .no) else .no
theorem run_kw {ks : List Str} {n : Nat} {pm : {α : Type} → List α → List α} {pins : List (Addr × Obj)} {σ : L2.St} {H : Hp} {s : Shared} {Q : VK} {us ws : List Value} {vs zs : List V} (F : FnOk X.prog X.w X.K X.mg X.base (L2.CX X.prog X.w) k f fd ps (spF X.K w.cl φ)) (hr : Room k X.A) (hb : KwB fd ps ks n pm) (tk : Takes X w.W)
    (I : Inv X pins σ H s) (r : Vals vs us) (rz : Vals zs ws) (hn : vs.length = n) (hz : zs.length = ks.length) (h : spF X.K w.cl φ (pm (vs ++ zs)) H Q (fun c dx H' => w.W c dx σ H')) : wpAny (model X.prog X.w) X.A (call (.ref f) us (ks.zip ws)) (EP X pins σ Q) X.xe s := by
  have rr : Vals (pm (vs ++ zs)) (pm (us ++ ws)) := hb.all RelV (vs ++ zs) (us ++ ws) (by rw [List.length_append, hn, hz]) (r.append rz)
  have bt := hb.to s us ws (by rw [← r.length]; exact hn) (by rw [← rz.length]; exact hz)
  refine wpAny_call (codeAny_mono (F.run X.A X.stack s H ⟨us, ks.zip ws⟩ (pm (us ++ ws)) (pm (vs ++ zs)) Q (fun c dx H' => w.W c dx σ H') hr I.env0 bt rr h) fun res s' hq => ?_)
  match res, hq with
  | .error ev, hq => exact passAt tk σ pins H s ev s' I hq
  | .ok (.ret u), hq => exact I.after hq
  | .ok .next, hq => exact hq.elim
  | .ok .brk, hq => exact hq.elim
  | .ok .cont, hq => exact hq.elim
theorem callK_of {K : PySem.W.Frag} {ea eb : EvA} {ks : List Str} {n : Nat} {pm : {α : Type} → List α → List α} {σ : L2.St} {H : Hp} {Q : VK} (hb : KwB fd ps ks n pm) (h : tE K w (eCallK ea eb ks.length n pm φ) σ H Q) :
    tA K w ea σ H fun vs H1 => tA K w eb σ H1 fun zs H2 => vs.length = n ∧ zs.length = ks.length ∧ spF K w.cl φ (pm (vs ++ zs)) H2 Q (fun c dx H' => w.W c dx σ H') := by
  obtain ⟨Xs, st, rel, h⟩ := h
  unfold eCallK at h
  refine ⟨Xs, st, rel, ?_⟩
  cases e1 : ea st with
  | ex c d st1 => rw [e1] at h; exact h
  | no => rw [e1] at h; exact h
  | ok ds st1 =>
    rw [e1] at h
    intro vs H1 p1 q1
    have h' : Rdo ((eb st1).bind fun es st2 => if ds.length = n ∧ es.length = ks.length then (match φ (pus (pm (ds ++ es))) with | .ok z _ => .ok z st2 | .ex c d _ => .ex c d st2 | .no => .no) else (.no : O R1)) _ _ := h
    refine ⟨Xs, st1, p1.rel, ?_⟩
    cases e2 : eb st1 with
    | ex c d st2 => rw [e2] at h'; exact exW_on p1 h'
    | no => rw [e2] at h'; exact h'
    | ok es st2 =>
      rw [e2] at h'
      intro zs H2 p2 q2
      have h2 : Rdo (if ds.length = n ∧ es.length = ks.length then (match φ (pus (pm (ds ++ es))) with | .ok z _ => .ok z st2 | .ex c d _ => .ex c d st2 | .no => .no) else (.no : O R1)) _ _ := h'
      split at h2
      · next hc =>
        have hv : vs.length = n := by rw [dpAll_len q1]; exact hc.1
        have hz : zs.length = ks.length := by rw [dpAll_len q2]; exact hc.2
        refine ⟨hv, hz, callP_of (p1.trans p2) (hb.dq _ _ (vs ++ zs) (ds ++ es) (by rw [List.length_append, hv, hz]) (dpAll_append (dpAll_mono p2.ex q1) q2)) h2⟩
      · exact h2.elim
theorem x_callK {eb : EvA} {kws : List Keyword} {ks : List Str} {n : Nat} {pm : {α : Type} → List α → List α} (F : FnOk X.prog X.w X.K X.mg X.base (L2.CX X.prog X.w) k f fd ps (spF X.K w.cl φ)) (hr : Room k X.A) (hm : X.mg x = some (.ref f)) (hk : PySem.W.keepIn X.K (.ref f) = true) (hb : KwB fd ps ks n pm) (tk : Takes X w.W)
    (ha : PA X (e :: es) (tA X.K w ea)) (hkw : PK X kws (tA X.K w eb)) (hg : Gl X x := by rfl) (hall : (backToKw pos (keywordEach kws X.env)).all (·.1.isSome) = true := by rfl) (hks : (backToKw pos (keywordEach kws X.env)).filterMap (·.1) = ks := by rfl)
    (hdb : (x == ("__debug__" : Str)) = false := by decide) (he : starEach (e :: es) X.env = (false, eval e X.env) :: starEach es X.env := by rfl)
    (hpl : ((backTo pos (starEach (e :: es) X.env)).any (·.1) || (backToKw pos (keywordEach kws X.env)).any (·.1.isNone)) = false := by rfl) :
    PE X (.Call (.Name x p) (e :: es) kws pos) (tE X.K w (eCallK ea eb ks.length n pm φ)) := by
  refine ⟨fun pins s σ H Q I h => ?_⟩
  refine wpAny_Call_Name_kw (ld_glob I hg hm ?_ hdb)
  refine PySem.W.callWith_KW (h₀ := X.base) I.ok.mod.kin hk hall (thn (ha.run pos pins s σ H _ I (callK_of hb h)) fun us s1 ⟨vs, H1, I1, r, q⟩ => ?_) hpl he
  refine thn (hkw.run pos pins s1 σ H1 _ I1 q) fun ws s2 ⟨zs, H2, I2, rz, hn, hz, q2⟩ => ⟨I2.kIn, ?_⟩
  rw [hks]
  exact run_kw F hr hb tk I2 r rz hn hz q2
theorem x_callK0 {eb : EvA} {kws : List Keyword} {ks : List Str} {pm : {α : Type} → List α → List α} (F : FnOk X.prog X.w X.K X.mg X.base (L2.CX X.prog X.w) k f fd ps (spF X.K w.cl φ)) (hr : Room k X.A) (hm : X.mg x = some (.ref f)) (hk : PySem.W.keepIn X.K (.ref f) = true) (hb : KwB fd ps ks 0 pm) (tk : Takes X w.W)
    (hkw : PK X kws (tA X.K w eb)) (hg : Gl X x := by rfl) (hall : (backToKw pos (keywordEach kws X.env)).all (·.1.isSome) = true := by rfl) (hks : (backToKw pos (keywordEach kws X.env)).filterMap (·.1) = ks := by rfl)
    (hdb : (x == ("__debug__" : Str)) = false := by decide) (hpl : ((backTo pos (starEach [] X.env)).any (·.1) || (backToKw pos (keywordEach kws X.env)).any (·.1.isNone)) = false := by rfl) :
    PE X (.Call (.Name x p) [] kws pos) (tE X.K w (eCallK aNil eb ks.length 0 pm φ)) := by
  refine ⟨fun pins s σ H Q I h => ?_⟩
  refine wpAny_Call_Name_kw (ld_glob I hg hm ?_ hdb)
  have h1 := callK_of hb h
  have h2 : tA X.K w eb σ H fun zs H2 => zs.length = ks.length ∧ spF X.K w.cl φ (pm zs) H2 Q (fun c dx H' => w.W c dx σ H') := by
    obtain ⟨Xs, st, rel, h1⟩ := h1
    obtain ⟨Ys, st2, rel2, h3⟩ := h1 [] H (Post.refl rel) .nil
    exact ⟨Ys, st2, rel2, h3.mono (fun a s g vs H' p q => by
      obtain ⟨_, g2, g3⟩ := g vs H' p q
      exact ⟨g2, by simpa using g3⟩) fun _ _ _ x => x⟩
  refine PySem.W.callWith_KW0 (h₀ := X.base) I.ok.mod.kin hk hall (thn (hkw.run pos pins s σ H _ I h2) fun ws s2 ⟨zs, H2, I2, rz, hz, q2⟩ => ⟨I2.kIn, ?_⟩) hpl
  rw [hks]
  exact run_kw (us := []) (vs := []) F hr hb tk I2 .nil rz rfl hz (by simpa using q2)
theorem xk_nil : PK X [] (tA X.K w aNil) := ⟨fun pos pins s σ H Q I h => by
  obtain ⟨Xs, st, rel, h⟩ := h
  exact pk_nil.run pos pins s σ H Q I (h [] H (Post.refl rel) .nil)⟩
theorem xk_cons {nm : Option Str} {kpos : Pos} {kws : List Keyword} {ev : EvE} {er : EvA} (ha : PE X e (tE X.K w ev)) (hr : PK X kws (tA X.K w er)) : PK X (⟨nm, e, kpos⟩ :: kws) (tA X.K w (aCons ev er)) := ⟨fun pos pins s σ H Q I h => by
  refine (pk_cons (kpos := kpos) (nm := nm) ha hr).run pos pins s σ H Q I ?_
  obtain ⟨Xs, st, rel, h⟩ := h
  refine tE_seq rel h fun x H1 rx st1 p1 v1 h1 => ?_
  refine tA_seq p1.rel h1 fun xs H2 ds st2 p2 q2 h2 => ?_
  exact h2 (x :: xs) H2 (p1.trans p2) (.cons (dp_mono p2.ex v1.dp) q2)⟩
end
end TX

end

section
set_option Elab.async false
set_option linter.all false
set_option maxRecDepth 100000
set_option maxHeartbeats 2000000
namespace TX
open PySem L2 Evl PyProof.Rows

/-! ### calls that write a list of the caller's -/
/-- an argument: a value; a name's own list; a new list that is given away -/
inductive Ag where
  | v (e : EvE) | io (i : Nat) | tmp (e : EvE)
def agEv : List Ag → List Sl → O (List (Option D))
  | [], st => .ok [] st
  | .v e :: r, st => (e st).bind fun z st1 => (agEv r st1).bind fun os st2 => .ok (some z.1 :: os) st2
  | .io i :: r, st => match st[i]? with
    | some (.ow _) => (agEv r st).bind fun os st2 => .ok (none :: os) st2
    | _ => .no
  | .tmp e :: r, st => (e st).bind fun z st1 => match z with
    | (.lst ds, true) => (agEv r st1).bind fun os st2 => .ok (some (.lst ds) :: os) st2
    | _ => .no
def agT (K : PySem.W.Frag) (w : Wi) : List Ag → TA
  | [] => tNil
  | .v e :: r => tCons (tE K w e) (agT K w r)
  | .io i :: r => tCons (tVar i) (agT K w r)
  | .tmp e :: r => tCons (tE K w e) (agT K w r)
inductive AgOk (K : PySem.W.Frag) (σ : L2.St) (M H : Hp) : List Ag → List V → List (Option D) → List Addr → Prop
  | nil : AgOk K σ M H [] [] [] []
  | v {e : EvE} {r : List Ag} {v : V} {vs : List V} {d : D} {os : List (Option D)} {T : List Addr} : Dq K M v d → AgOk K σ M H r vs os T → AgOk K σ M H (.v e :: r) (v :: vs) (some d :: os) T
  | io {i : Nat} {r : List Ag} {v : V} {vs : List V} {os : List (Option D)} {T : List Addr} : σ[i]? = some (some v) → AgOk K σ M H r vs os T → AgOk K σ M H (.io i :: r) (v :: vs) (none :: os) T
  | tmp {e : EvE} {r : List Ag} {p : Addr} {us vs : List V} {ds : List D} {os : List (Option D)} {T : List Addr} : H p = some (.lst us) → DqAll K M us ds → AgOk K σ M H r vs os T → AgOk K σ M H (.tmp e :: r) (.ref p :: vs) (some (.lst ds) :: os) (p :: T)
section
variable {K : PySem.W.Frag} {w : Wi} {Xs : List Addr} {st : List Sl} {σ : L2.St} {H : Hp}
/-- hidden addresses in another order -/
theorem rel_perm {Xs Ys : List Addr} (h : Xs.Perm Ys) (r : Rel K Xs st σ H) : Rel K Ys st σ H := by
  have pm : (hid Xs st σ).Perm (hid Ys st σ) := h.append_left _
  have e : vis Ys st σ H = vis Xs st σ H := msk_congr fun a => pm.mem_iff.symm
  exact ⟨r.len, pm.nodup_iff.mp r.nd, fun i d hi => by rw [e]; exact r.pu i d hi, fun i ds hi => by rw [e]; exact r.ow i ds hi, fun x hx => r.xs x (h.mem_iff.mpr hx)⟩
theorem vis_perm {Xs Ys : List Addr} (h : Xs.Perm Ys) : vis Xs st σ H = vis Ys st σ H := msk_congr fun a => (h.append_left (ownd st σ)).mem_iff
/-- hidden lists come to sight -/
theorem rel_show {L : List Addr} (r : Rel K (L ++ Xs) st σ H) : Rel K Xs st σ H ∧ Ex (vis (L ++ Xs) st σ H) (vis Xs st σ H) := by
  have ex : Ex (vis (L ++ Xs) st σ H) (vis Xs st σ H) := msk_sub fun a ha => by
    rcases List.mem_append.mp ha with h | h
    · exact List.mem_append_left _ h
    · exact List.mem_append_right _ (List.mem_append_right _ h)
  refine ⟨⟨r.len, ?_, fun i d hi => ?_, fun i ds hi => ?_, fun x hx => r.xs x (List.mem_append_right _ hx)⟩, ex⟩
  · exact r.nd.sublist ((List.Sublist.refl _).append (List.sublist_append_right L Xs))
  · obtain ⟨v, q1, q2⟩ := r.pu i d hi
    exact ⟨v, q1, dp_mono ex q2⟩
  · obtain ⟨p, vs, q1, q2, q3⟩ := r.ow i ds hi
    exact ⟨p, vs, q1, q2, dpAll_mono ex q3⟩
/-- what was seen is seen behind new hidden lists -/
theorem ex_hide {st' : List Sl} {σ' : L2.St} {H' : Hp} {L : List Addr} (e : Ex (vis Xs st σ H) (vis Xs st' σ' H')) (hL : ∀ x ∈ L, H x = none) : Ex (vis Xs st σ H) (vis (L ++ Xs) st' σ' H') := fun b o hb => by
  obtain ⟨n1, n2⟩ := msk_some (e b o hb)
  have nl : b ∉ L := fun z => by
    have := (msk_some hb).2
    rw [hL b z] at this
    cases this
  show msk (ownd st' σ' ++ (L ++ Xs)) H' b = some o
  rw [msk_out]
  · exact n2
  · intro hx
    simp only [List.mem_append] at hx
    rcases hx with h | h | h
    · exact n1 (List.mem_append_left _ h)
    · exact nl h
    · exact n1 (List.mem_append_right _ h)
theorem post_show {st1 st' : List Sl} {H1 H' : Hp} {p : Addr} (p1 : Post K Xs st σ H st1 H1) (hp : H p = none) (q : Post K (p :: Xs) st1 σ H1 st' H') : Post K Xs st σ H st' H' := by
  obtain ⟨r1, e1⟩ := rel_show (L := [p]) q.rel
  have e0 : Ex (vis Xs st σ H) (vis ([p] ++ Xs) st1 σ H1) := ex_hide p1.ex fun x hx => by rw [List.mem_singleton.mp hx]; exact hp
  exact ⟨r1, (e0.trans q.ex).trans e1, fun x hx => (q.xs x (List.mem_cons_of_mem _ hx)).trans (p1.xs x hx), fun a h => p1.dom a (q.dom a h), p1.ol.trans q.ol⟩
theorem ag_run : ∀ (ags : List Ag) {Xs : List Addr} {st : List Sl} {H : Hp} {β : Type} {f : List (Option D) → List Sl → O β} {k : β → List Sl → Prop} {x : Nat → D → List Sl → Prop} {Q : List V → Hp → Prop}, Rel K Xs st σ H → Rdo ((agEv ags st).bind f) k x → (∀ c d s, x c d s → exW K w Xs st σ H c d s) →
    (∀ vs H' os T st', Post K Xs st σ H st' H' → Rel K (T ++ Xs) st' σ H' → AgOk K σ (vis (T ++ Xs) st' σ H') H' ags vs os T → (∀ p ∈ T, H p = none) → Rdo (f os st') k x → Q vs H') → agT K w ags σ H Q
  | [], Xs, st, H, β, f, k, x, Q, rel, h, hx, hq => hq [] H [] [] st (Post.refl rel) rel .nil (fun _ h => by cases h) h
  | .v e :: r, Xs, st, H, β, f, k, x, Q, rel, h, hx, hq => by
    show tE K w e σ H _
    refine ⟨Xs, st, rel, ?_⟩
    unfold agEv at h
    cases ez : e st with
    | ex c d s => rw [ez] at h; exact hx c d s h
    | no => rw [ez] at h; exact h
    | ok z st1 =>
      rw [ez] at h
      intro v H1 p1 q1
      have h' : Rdo ((agEv r st1).bind fun os st2 => f (some z.1 :: os) st2) k x := by
        have h0 : Rdo (O.bind ((agEv r st1).bind fun os st2 => .ok (some z.1 :: os) st2) f) k x := h
        cases e2 : agEv r st1 with
        | ok os st2 => rw [e2] at h0; exact h0
        | ex c d s => rw [e2] at h0; exact h0
        | no => rw [e2] at h0; exact h0
      refine ag_run r p1.rel h' (fun c d s g => exW_on p1 (hx c d s g)) fun vs H' os T st' p2 r2 a2 t2 g => ?_
      refine hq (v :: vs) H' (some z.1 :: os) T st' (p1.trans p2) r2 (.v (dp_mono (ex_hide p2.ex t2) q1.dp) a2) (fun p hp => p1.dom p (t2 p hp)) g
  | .io i :: r, Xs, st, H, β, f, k, x, Q, rel, h, hx, hq => by
    unfold agEv at h
    split at h
    · next ds ei =>
      obtain ⟨p, us, e1, e2, e3⟩ := rel.ow i ds ei
      refine ⟨.ref p, e1, ?_⟩
      have h' : Rdo ((agEv r st).bind fun os st2 => f (none :: os) st2) k x := by
        have h0 : Rdo (O.bind ((agEv r st).bind fun os st2 => .ok (none :: os) st2) f) k x := h
        cases e2 : agEv r st with
        | ok os st2 => rw [e2] at h0; exact h0
        | ex c d s => rw [e2] at h0; exact h0
        | no => rw [e2] at h0; exact h0
      exact ag_run r rel h' hx fun vs H' os T st' p2 r2 a2 t2 g => hq (.ref p :: vs) H' (none :: os) T st' p2 r2 (.io e1 a2) t2 g
    · exact h.elim
  | .tmp e :: r, Xs, st, H, β, f, k, x, Q, rel, h, hx, hq => by
    show tE K w e σ H _
    refine ⟨Xs, st, rel, ?_⟩
    unfold agEv at h
    cases ez : e st with
    | ex c d s => rw [ez] at h; exact hx c d s h
    | no => rw [ez] at h; exact h
    | ok z st1 =>
      rw [ez] at h
      intro v H1 p1 q1
      obtain ⟨dz, bz⟩ := z
      cases bz with
      | false =>
        have : Rdo (O.bind (match (dz, false) with | (.lst ds, true) => (agEv r st1).bind fun os st2 => .ok (some (.lst ds) :: os) st2 | _ => .no) f) k x := h
        cases dz <;> exact this.elim
      | true =>
        obtain ⟨p, us, ds, rfl, e2, e3, e4, e5, e6⟩ := q1.fr rfl
        have e2' : dz = .lst ds := e2
        subst e2'
        have h' : Rdo ((agEv r st1).bind fun os st2 => f (some (.lst ds) :: os) st2) k x := by
          have h0 : Rdo (O.bind ((agEv r st1).bind fun os st2 => .ok (some (.lst ds) :: os) st2) f) k x := h
          cases e2 : agEv r st1 with
          | ok os st2 => rw [e2] at h0; exact h0
          | ex c d s => rw [e2] at h0; exact h0
          | no => rw [e2] at h0; exact h0
        refine ag_run r e6 h' (fun c d s g dx u H' q1 q2 q3 => hx c d s g dx u H' (post_show p1 e3 q1) ((rel_show (L := [p]) q1.rel).2 _ _ q2) (dp_mono (rel_show (L := [p]) q1.rel).2 q3)) fun vs H' os T st' p2 r2 a2 t2 g => ?_
        have pm : (T ++ p :: Xs).Perm ((p :: T) ++ Xs) := List.perm_middle
        have hp1 : H1 p ≠ none := by rw [e4]; simp
        refine hq (.ref p :: vs) H' (some (.lst ds) :: os) (p :: T) st' (post_show p1 e3 p2) (rel_perm pm r2) ?_ (fun a ha => ?_) g
        · have ev := vis_perm (st := st') (σ := σ) (H := H') pm
          rw [← ev]
          refine .tmp ((p2.xs p List.mem_cons_self).trans e4) (dpAll_mono (ex_hide p2.ex t2) e5) a2
        · rcases List.mem_cons.mp ha with h | h
          · rw [h]; exact e3
          · exact p1.dom a (t2 a h)
end
def mkArgs : List Ag → List (Option D) → List Sl → Option (List Sl)
  | [], [], _ => some []
  | .v _ :: r, some d :: os, st => (mkArgs r os st).map (.pu d :: ·)
  | .io i :: r, none :: os, st => match st[i]? with
    | some (.ow ds) => (mkArgs r os st).map (.ow ds :: ·)
    | _ => none
  | .tmp _ :: r, some (.lst ds) :: os, st => (mkArgs r os st).map (.ow ds :: ·)
  | _, _, _ => none
def iosOf : List Ag → List Nat
  | [] => []
  | .io i :: r => i :: iosOf r
  | _ :: r => iosOf r
def updIo : List Ag → List Sl → List Sl → Option (List Sl)
  | [], [], st => some st
  | .io i :: r, .ow ds :: a, st => updIo r a (st.set i (.ow ds))
  | .io _ :: _, _, _ => none
  | .tmp _ :: r, .ow _ :: a, st => updIo r a st
  | .tmp _ :: _, _, _ => none
  | .v _ :: r, _ :: a, st => updIo r a st
  | _, _, _ => none
def eCallA (ags : List Ag) (φ : EvE) : EvE := fun st => (agEv ags st).bind fun os st1 => if (iosOf ags).Nodup then (match mkArgs ags os st1 with
  | none => .no
  | some a => match φ a with
    | .ok z a' => match updIo ags a' st1 with
      | some st2 => .ok z st2
      | none => .no
    | .ex c d a' => match updIo ags a' st1 with
      | some st2 => .ex c d st2
      | none => .no
    | .no => .no) else .no
section
variable {K : PySem.W.Frag} {σ : L2.St} {M H : Hp}
/-- the arguments' slots hold what they should; their lists: the names' and the given ones -/
theorem mk_of : ∀ {ags : List Ag} {vs : List V} {os : List (Option D)} {T : List Addr} {st a : List Sl}, AgOk K σ M H ags vs os T → mkArgs ags os st = some a → (∀ (i : Nat) (ds : List D), st[i]? = some (.ow ds) → ∃ p us, σ[i]? = some (some (.ref p)) ∧ H p = some (.lst us) ∧ DqAll K M us ds) →
    a.length = vs.length ∧ (∀ (i : Nat) (d : D), a[i]? = some (.pu d) → ∃ v, vs[i]? = some v ∧ Dq K M v d) ∧
    (∀ (i : Nat) (ds : List D), a[i]? = some (.ow ds) → ∃ p us, vs[i]? = some (.ref p) ∧ H p = some (.lst us) ∧ DqAll K M us ds) ∧
    (∀ p, p ∈ ownd a (vs.map some) ↔ (∃ i ∈ iosOf ags, σ[i]? = some (some (.ref p))) ∨ p ∈ T) ∧
    (∀ i ∈ iosOf ags, ∃ ds, st[i]? = some (.ow ds))
  | _, _, _, _, st, a, .nil, h, hs => by
    cases h
    exact ⟨rfl, fun i d e => by simp at e, fun i d e => by simp at e, fun p => by simp [ownd, iosOf], fun i hi => by cases hi⟩
  | .v e :: r, v :: vs, some d :: os, T, st, a, .v hd hr, h, hs => by
    have h' : (mkArgs r os st).map (.pu d :: ·) = some a := h
    cases e1 : mkArgs r os st with
    | none => rw [e1] at h'; cases h'
    | some b =>
      rw [e1] at h'
      cases h'
      obtain ⟨q1, q2, q3, q4, q5⟩ := mk_of hr e1 hs
      refine ⟨by simp [q1], fun i d' ei => ?_, fun i ds ei => ?_, fun p => ?_, q5⟩
      · cases i with
        | zero => simp at ei; subst ei; exact ⟨v, rfl, hd⟩
        | succ i => simpa using q2 i d' (by simpa using ei)
      · cases i with
        | zero => simp at ei
        | succ i => simpa using q3 i ds (by simpa using ei)
      · show p ∈ ownd b (vs.map some) ↔ _
        exact q4 p
  | .io i0 :: r, v :: vs, none :: os, T, st, a, .io he hr, h, hs => by
    unfold mkArgs at h
    split at h
    · next ds0 e0 =>
      cases e1 : mkArgs r os st with
      | none => rw [e1] at h; cases h
      | some b =>
        rw [e1] at h
        cases h
        obtain ⟨q1, q2, q3, q4, q5⟩ := mk_of hr e1 hs
        obtain ⟨p0, us, k1, k2, k3⟩ := hs i0 ds0 e0
        have ev : v = .ref p0 := by rw [he] at k1; cases k1; rfl
        subst ev
        refine ⟨by simp [q1], fun i d' ei => ?_, fun i ds ei => ?_, fun p => ?_, fun i hi => ?_⟩
        · cases i with
          | zero => simp at ei
          | succ i => simpa using q2 i d' (by simpa using ei)
        · cases i with
          | zero => simp at ei; subst ei; exact ⟨p0, us, rfl, k2, k3⟩
          | succ i => simpa using q3 i ds (by simpa using ei)
        · show p ∈ p0 :: ownd b (vs.map some) ↔ _
          rw [List.mem_cons, q4 p]
          show _ ↔ (∃ i ∈ i0 :: iosOf r, _) ∨ _
          constructor
          · rintro (h | ⟨i, h1, h2⟩ | h)
            · subst h; exact .inl ⟨i0, List.mem_cons_self, he⟩
            · exact .inl ⟨i, List.mem_cons_of_mem _ h1, h2⟩
            · exact .inr h
          · rintro (⟨i, h1, h2⟩ | h)
            · rcases List.mem_cons.mp h1 with h | h
              · subst h; rw [he] at h2; cases h2; exact .inl rfl
              · exact .inr (.inl ⟨i, h, h2⟩)
            · exact .inr (.inr h)
        · rcases List.mem_cons.mp (show i ∈ i0 :: iosOf r from hi) with h | h
          · subst h; exact ⟨ds0, e0⟩
          · exact q5 i h
    · cases h
  | .tmp e :: r, .ref p0 :: vs, some (.lst ds0) :: os, _ :: T, st, a, .tmp hp hd hr, h, hs => by
    have h' : (mkArgs r os st).map (.ow ds0 :: ·) = some a := h
    cases e1 : mkArgs r os st with
    | none => rw [e1] at h'; cases h'
    | some b =>
      rw [e1] at h'
      cases h'
      obtain ⟨q1, q2, q3, q4, q5⟩ := mk_of hr e1 hs
      refine ⟨by simp [q1], fun i d' ei => ?_, fun i ds ei => ?_, fun p => ?_, q5⟩
      · cases i with
        | zero => simp at ei
        | succ i => simpa using q2 i d' (by simpa using ei)
      · cases i with
        | zero => simp at ei; subst ei; exact ⟨p0, _, rfl, hp, hd⟩
        | succ i => simpa using q3 i ds (by simpa using ei)
      · show p ∈ p0 :: ownd b (vs.map some) ↔ _
        rw [List.mem_cons, q4 p, List.mem_cons]
        show _ ↔ (∃ i ∈ iosOf r, _) ∨ _
        constructor
        · rintro (h | h | h)
          · exact .inr (.inl h)
          · exact .inl h
          · exact .inr (.inr h)
        · rintro (h | h | h)
          · exact .inr (.inl h)
          · exact .inl h
          · exact .inr (.inr h)
/-- each of the arguments' lists once -/
theorem mk_nd : ∀ {ags : List Ag} {vs : List V} {os : List (Option D)} {T : List Addr} {st a : List Sl}, AgOk K σ M H ags vs os T → mkArgs ags os st = some a → (∀ (i : Nat) (ds : List D), st[i]? = some (.ow ds) → ∃ p us, σ[i]? = some (some (.ref p)) ∧ H p = some (.lst us) ∧ DqAll K M us ds) →
    (iosOf ags).Nodup → T.Nodup → (∀ (i : Nat) (p : Addr), i ∈ iosOf ags → σ[i]? = some (some (.ref p)) → p ∉ T) → (∀ (i j : Nat) (p : Addr), i ∈ iosOf ags → j ∈ iosOf ags → σ[i]? = some (some (.ref p)) → σ[j]? = some (some (.ref p)) → i = j) → (ownd a (vs.map some)).Nodup
  | _, _, _, _, st, a, .nil, h, hs, _, _, _, _ => by
    cases h
    exact List.nodup_nil
  | .v e :: r, v :: vs, some d :: os, T, st, a, .v hd hr, h, hs, h1, h2, h3, h4 => by
    have h' : (mkArgs r os st).map (.pu d :: ·) = some a := h
    cases e1 : mkArgs r os st with
    | none => rw [e1] at h'; cases h'
    | some b =>
      rw [e1] at h'
      cases h'
      have ih := mk_nd hr e1 hs h1 h2 h3 h4
      exact ih
  | .io i0 :: r, v :: vs, none :: os, T, st, a, .io he hr, h, hs, h1, h2, h3, h4 => by
    unfold mkArgs at h
    split at h
    · next ds0 e0 =>
      cases e1 : mkArgs r os st with
      | none => rw [e1] at h; cases h
      | some b =>
        rw [e1] at h
        cases h
        obtain ⟨p0, us, k1, k2, k3⟩ := hs i0 ds0 e0
        have ev : v = .ref p0 := by rw [he] at k1; cases k1; rfl
        subst ev
        have nd := List.nodup_cons.mp (show (i0 :: iosOf r).Nodup from h1)
        have ih := mk_nd hr e1 hs nd.2 h2 (fun i p hi => h3 i p (List.mem_cons_of_mem _ hi)) (fun i j p hi hj => h4 i j p (List.mem_cons_of_mem _ hi) (List.mem_cons_of_mem _ hj))
        show (p0 :: ownd b (vs.map some)).Nodup
        refine List.nodup_cons.mpr ⟨fun hm => ?_, ih⟩
        rcases ((mk_of hr e1 hs).2.2.2.1 p0).mp hm with ⟨i, hi, e⟩ | hm
        · have := h4 i0 i p0 List.mem_cons_self (List.mem_cons_of_mem _ hi) k1 e
          exact nd.1 (by rw [this]; exact hi)
        · exact h3 i0 p0 List.mem_cons_self k1 hm
    · cases h
  | .tmp e :: r, .ref p0 :: vs, some (.lst ds0) :: os, _ :: T, st, a, .tmp hp hd hr, h, hs, h1, h2, h3, h4 => by
    have h' : (mkArgs r os st).map (.ow ds0 :: ·) = some a := h
    cases e1 : mkArgs r os st with
    | none => rw [e1] at h'; cases h'
    | some b =>
      rw [e1] at h'
      cases h'
      have nd := List.nodup_cons.mp h2
      have ih := mk_nd hr e1 hs h1 nd.2 (fun i p hi e hm => h3 i p hi e (List.mem_cons_of_mem _ hm)) h4
      show (p0 :: ownd b (vs.map some)).Nodup
      refine List.nodup_cons.mpr ⟨fun hm => ?_, ih⟩
      rcases ((mk_of hr e1 hs).2.2.2.1 p0).mp hm with ⟨i, hi, e⟩ | hm
      · exact h3 i p0 hi e List.mem_cons_self
      · exact nd.1 hm
/-- the caller's slots behind it -/
theorem upd_of : ∀ {ags : List Ag} {vs : List V} {os : List (Option D)} {T : List Addr} {a' st st2 : List Sl}, AgOk K σ M H ags vs os T → updIo ags a' st = some st2 → (iosOf ags).Nodup →
    st2.length = st.length ∧ (∀ (i : Nat), i ∉ iosOf ags → st2[i]? = st[i]?) ∧ (∀ i ∈ iosOf ags, i < st.length → ∃ (j : Nat) (ds : List D), a'[j]? = some (.ow ds) ∧ st2[i]? = some (.ow ds) ∧ ∀ v, σ[i]? = some (some v) → vs[j]? = some v) ∧
    (∀ p ∈ T, ∃ (j : Nat) (ds : List D), a'[j]? = some (.ow ds) ∧ vs[j]? = some (.ref p))
  | _, _, _, _, a', st, st2, .nil, h, _ => by
    cases a' with
    | nil => cases h; exact ⟨rfl, fun _ _ => rfl, fun i hi _ => (by cases hi), fun p hp => (by cases hp)⟩
    | cons _ _ => cases h
  | .v e :: r, v :: vs, some d :: os, T, a', st, st2, .v hd hr, h, hn => by
    cases a' with
    | nil => cases h
    | cons s a' =>
      obtain ⟨q1, q2, q3, q4⟩ := upd_of hr (show updIo r a' st = some st2 from h) hn
      refine ⟨q1, q2, fun i hi hl => ?_, fun p hp => ?_⟩
      · obtain ⟨j, ds, k1, k2, k3⟩ := q3 i hi hl
        exact ⟨j + 1, ds, by simpa using k1, k2, fun v h => by simpa using k3 v h⟩
      · obtain ⟨j, ds, k1, k2⟩ := q4 p hp
        exact ⟨j + 1, ds, by simpa using k1, by simpa using k2⟩
  | .io i0 :: r, v :: vs, none :: os, T, a', st, st2, .io he hr, h, hn => by
    cases a' with
    | nil => cases h
    | cons s a' =>
      cases s with
      | un => cases h
      | pu _ => cases h
      | ow ds0 =>
        have nd := List.nodup_cons.mp (show (i0 :: iosOf r).Nodup from hn)
        obtain ⟨q1, q2, q3, q4⟩ := upd_of hr (show updIo r a' (st.set i0 (.ow ds0)) = some st2 from h) nd.2
        refine ⟨by rw [q1, List.length_set], fun i hi => ?_, fun i hi hl => ?_, fun p hp => ?_⟩
        · have h1 : i ≠ i0 := fun e => hi (by rw [e]; exact List.mem_cons_self)
          have h2 : i ∉ iosOf r := fun e => hi (List.mem_cons_of_mem _ e)
          rw [q2 i h2, List.getElem?_set_ne (Ne.symm h1)]
        · rcases List.mem_cons.mp (show i ∈ i0 :: iosOf r from hi) with e | e
          · subst e
            refine ⟨0, ds0, rfl, ?_, fun v' hv => by rw [he] at hv; cases hv; rfl⟩
            rw [q2 i nd.1, List.getElem?_set_self hl]
          · obtain ⟨j, ds, k1, k2, k3⟩ := q3 i e (by rw [List.length_set]; exact hl)
            exact ⟨j + 1, ds, by simpa using k1, k2, fun v h => by simpa using k3 v h⟩
        · obtain ⟨j, ds, k1, k2⟩ := q4 p hp
          exact ⟨j + 1, ds, by simpa using k1, by simpa using k2⟩
  | .tmp e :: r, .ref p0 :: vs, some (.lst ds0) :: os, _ :: T, a', st, st2, .tmp hp0 hd hr, h, hn => by
    cases a' with
    | nil => cases h
    | cons s a' =>
      cases s with
      | un => cases h
      | pu _ => cases h
      | ow ds1 =>
        obtain ⟨q1, q2, q3, q4⟩ := upd_of hr (show updIo r a' st = some st2 from h) hn
        refine ⟨q1, q2, fun i hi hl => ?_, fun p hp => ?_⟩
        · obtain ⟨j, ds, k1, k2, k3⟩ := q3 i hi hl
          exact ⟨j + 1, ds, by simpa using k1, k2, fun v h => by simpa using k3 v h⟩
        · rcases List.mem_cons.mp hp with e | e
          · subst e; exact ⟨0, ds1, rfl, rfl⟩
          · obtain ⟨j, ds, k1, k2⟩ := q4 p e
            exact ⟨j + 1, ds, by simpa using k1, by simpa using k2⟩
end
/-- two owning slots with one list are one -/
theorem own_one {K : PySem.W.Frag} {Xs : List Addr} {st : List Sl} {σ : L2.St} {H : Hp} (r : Rel K Xs st σ H) {i j : Nat} {ds es : List D} {p : Addr} (h1 : st[i]? = some (.ow ds)) (h2 : st[j]? = some (.ow es)) (h3 : σ[i]? = some (some (.ref p))) (h4 : σ[j]? = some (some (.ref p))) : i = j := by
  by_cases e : i = j
  · exact e
  · have nd : (ownd st σ).Nodup := (List.nodup_append.mp r.nd).1
    have pm := ownd_free (d := .non) h1 h3
    have nd2 : (p :: ownd (st.set i (.pu .non)) σ).Nodup := pm.nodup_iff.mp nd
    exact absurd (ownd_mem (i := j) (ds := es) (by rw [List.getElem?_set_ne e]; exact h2) h4) (List.nodup_cons.mp nd2).1
section
variable {K : PySem.W.Frag} {w : Wi} {φ : EvE}
theorem callA_of {ags : List Ag} {σ : L2.St} {H : Hp} {Q : VK} (h : tE K w (eCallA ags φ) σ H Q) : agT K w ags σ H fun vs H1 => spF K w.cl φ vs H1 Q (fun c dx H' => w.W c dx σ H') := by
  obtain ⟨Xs, st, rel, h⟩ := h
  refine ag_run ags rel h (fun _ _ _ g => g) fun vs H1 os T st1 p1 r1 a1 t1 g => ?_
  split at g
  · next hio =>
    split at g
    · exact g.elim
    · next a ea =>
      obtain ⟨m1, m2, m3, m4, m5⟩ := mk_of a1 ea (fun i ds hi => r1.ow i ds hi)
      have nd1 := r1.nd
      have ndT : T.Nodup := ((List.nodup_append.mp (List.nodup_append.mp nd1).2.1)).1
      have disj : ∀ p ∈ ownd st1 σ, p ∉ T := fun p hp hT => (List.nodup_append.mp nd1).2.2 p hp p (List.mem_append_left _ hT) rfl
      have ndA := mk_nd a1 ea (fun i ds hi => r1.ow i ds hi) hio ndT (fun i p hi e hT => by
        obtain ⟨ds, hd⟩ := m5 i hi
        exact disj p (ownd_mem hd e) hT) (fun i j p hi hj e1 e2 => by
        obtain ⟨ds, hd⟩ := m5 i hi
        obtain ⟨es, he⟩ := m5 j hj
        exact own_one r1 hd he e1 e2)
      -- what else is hidden
      have subA : ∀ p ∈ ownd a (vs.map some), p ∈ hid (T ++ Xs) st1 σ := fun p hp => by
        rcases (m4 p).mp hp with ⟨i, hi, e⟩ | hT
        · obtain ⟨ds, hd⟩ := m5 i hi
          exact List.mem_append_left _ (ownd_mem hd e)
        · exact List.mem_append_right _ (List.mem_append_left _ hT)
      generalize hZ : (hid (T ++ Xs) st1 σ).filter (fun p => decide (p ∉ ownd a (vs.map some))) = Z
      have memZ : ∀ p, p ∈ Z ↔ p ∈ hid (T ++ Xs) st1 σ ∧ p ∉ ownd a (vs.map some) := fun p => by rw [← hZ, List.mem_filter]; simp
      have ndZ : (hid Z a (vs.map some)).Nodup := List.nodup_append.mpr ⟨ndA, by rw [← hZ]; exact nd1.sublist List.filter_sublist, fun p hp q hq e => by
        subst e
        exact ((memZ p).mp hq).2 hp⟩
      have same : ∀ p, p ∈ hid Z a (vs.map some) ↔ p ∈ hid (T ++ Xs) st1 σ := fun p => by
        show p ∈ ownd a (vs.map some) ++ Z ↔ _
        rw [List.mem_append, memZ]
        constructor
        · rintro (h | h)
          · exact subA p h
          · exact h.1
        · intro h
          by_cases hp : p ∈ ownd a (vs.map some)
          · exact .inl hp
          · exact .inr ⟨h, hp⟩
      have ev : vis Z a (vs.map some) H1 = vis (T ++ Xs) st1 σ H1 := msk_congr same
      have ra : Rel K Z a (vs.map some) H1 := by
        refine ⟨by rw [m1, List.length_map], ndZ, fun i d hi => ?_, fun i ds hi => ?_, fun z hz => rel_dom r1 z ((memZ z).mp hz).1⟩
        · obtain ⟨v, q1, q2⟩ := m2 i d hi
          exact ⟨v, by rw [List.getElem?_map, q1]; rfl, by rw [ev]; exact q2⟩
        · obtain ⟨p, us, q1, q2, q3⟩ := m3 i ds hi
          exact ⟨p, us, by rw [List.getElem?_map, q1]; rfl, q2, by rw [ev]; exact q3⟩
      -- back
      have back : ∀ {a' st2 : List Sl} {H' : Hp} {L : List Addr}, updIo ags a' st1 = some st2 → Post K Z a (vs.map some) H1 a' H' → Rel K (L ++ Z) a' (vs.map some) H' → (∀ x ∈ L, H1 x = none) →
          Rel K (L ++ Xs) st2 σ H' ∧ Ex (vis (L ++ Z) a' (vs.map some) H') (vis (L ++ Xs) st2 σ H') ∧ Ex (vis Xs st σ H) (vis (L ++ Xs) st2 σ H') ∧ (∀ x ∈ Xs, H' x = H1 x) ∧ OwLess st1 st2 := fun {a' st2 H' L} hu pa ra' hL => by
        obtain ⟨u1, u2, u3, u4⟩ := upd_of a1 hu hio
        have ol : OwLess st1 st2 := fun i ds hi => by
          by_cases hm : i ∈ iosOf ags
          · exact m5 i hm
          · rw [u2 i hm] at hi; exact ⟨ds, hi⟩
        have like : ∀ (i : Nat), (∃ ds, st1[i]? = some (.ow ds)) ↔ ∃ ds, st2[i]? = some (.ow ds) := fun i => ⟨fun ⟨ds, hi⟩ => by
          by_cases hm : i ∈ iosOf ags
          · obtain ⟨j, es, _, k2, _⟩ := u3 i hm (List.getElem?_eq_some_iff.mp hi).1
            exact ⟨es, k2⟩
          · exact ⟨ds, by rw [u2 i hm]; exact hi⟩, fun ⟨ds, hi⟩ => ol i ds hi⟩
        have eo : ownd st2 σ = ownd st1 σ := ownd_like like u1
        -- the arguments' lists are the same ones behind the call
        have eoa : ∀ p, p ∈ ownd a' (vs.map some) ↔ p ∈ ownd a (vs.map some) := fun p => ⟨fun hp => by
          obtain ⟨i, ds, h1, h2⟩ := ownd_of hp
          obtain ⟨es, h3⟩ := pa.ol i ds h1
          exact ownd_mem h3 h2, fun hp => by
          rcases (m4 p).mp hp with ⟨i, hi, e⟩ | hT
          · obtain ⟨ds, hd⟩ := m5 i hi
            obtain ⟨j, es, k1, _, k3⟩ := u3 i hi (List.getElem?_eq_some_iff.mp hd).1
            exact ownd_mem k1 (by rw [List.getElem?_map, k3 _ e]; rfl)
          · obtain ⟨j, es, k1, k2⟩ := u4 p hT
            exact ownd_mem k1 (by rw [List.getElem?_map, k2]; rfl)⟩
        have same2 : ∀ p, p ∈ hid (L ++ Z) a' (vs.map some) ↔ p ∈ hid (L ++ (T ++ Xs)) st2 σ := fun p => by
          show p ∈ ownd a' (vs.map some) ++ (L ++ Z) ↔ p ∈ ownd st2 σ ++ (L ++ (T ++ Xs))
          rw [eo]
          have q := same p
          have q' : (p ∈ ownd a (vs.map some) ∨ p ∈ Z) ↔ (p ∈ ownd st1 σ ∨ (p ∈ T ∨ p ∈ Xs)) := by simpa only [hid, List.mem_append] using q
          simp only [List.mem_append]
          rw [eoa p]
          constructor
          · rintro (h | h | h)
            · rcases q'.mp (.inl h) with h | h
              · exact .inl h
              · exact .inr (.inr h)
            · exact .inr (.inl h)
            · rcases q'.mp (.inr h) with h | h
              · exact .inl h
              · exact .inr (.inr h)
          · rintro (h | h | h)
            · rcases q'.mpr (.inl h) with h | h
              · exact .inl h
              · exact .inr (.inr h)
            · exact .inr (.inl h)
            · rcases q'.mpr (.inr h) with h | h
              · exact .inl h
              · exact .inr (.inr h)
        have ev2 : vis (L ++ Z) a' (vs.map some) H' = vis (L ++ (T ++ Xs)) st2 σ H' := msk_congr same2
        have exM : Ex (vis (T ++ Xs) st1 σ H1) (vis (L ++ (T ++ Xs)) st2 σ H') := by
          rw [← ev2, ← ev]
          exact ex_hide pa.ex hL
        have R2 : Rel K (L ++ (T ++ Xs)) st2 σ H' := by
          refine ⟨by rw [u1]; exact r1.len, ?_, fun i d hi => ?_, fun i ds hi => ?_, fun x hx => ?_⟩
          · show (ownd st2 σ ++ (L ++ (T ++ Xs))).Nodup
            rw [eo]
            have nL : (L ++ Z).Nodup := (List.nodup_append.mp ra'.nd).2.1
            have pm : (ownd st1 σ ++ (L ++ (T ++ Xs))).Perm (L ++ (ownd st1 σ ++ (T ++ Xs))) := List.perm_append_comm_assoc _ _ _
            refine pm.nodup_iff.mpr (List.nodup_append.mpr ⟨(List.nodup_append.mp nL).1, nd1, fun x hx y hy e => ?_⟩)
            subst e
            exact rel_dom r1 x hy (hL x hx)
          · have hi' : st1[i]? = some (.pu d) := by
              by_cases hm : i ∈ iosOf ags
              · obtain ⟨ds, hd⟩ := m5 i hm
                obtain ⟨j, es, _, k2, _⟩ := u3 i hm (List.getElem?_eq_some_iff.mp hd).1
                rw [k2] at hi; cases hi
              · rw [u2 i hm] at hi; exact hi
            obtain ⟨v, q1, q2⟩ := r1.pu i d hi'
            exact ⟨v, q1, dp_mono exM q2⟩
          · by_cases hm : i ∈ iosOf ags
            · obtain ⟨es, he⟩ := m5 i hm
              obtain ⟨p, us, q1, _, _⟩ := r1.ow i es he
              obtain ⟨j, fs, k1, k2, k3⟩ := u3 i hm (List.getElem?_eq_some_iff.mp he).1
              rw [k2] at hi
              cases hi
              obtain ⟨p', us', z1, z2, z3⟩ := ra'.ow j ds k1
              have ep : p' = p := by
                have := k3 _ q1
                rw [List.getElem?_map, this] at z1
                cases z1
                rfl
              subst ep
              exact ⟨p', us', q1, z2, by rw [← ev2]; exact z3⟩
            · rw [u2 i hm] at hi
              obtain ⟨p, us, q1, q2, q3⟩ := r1.ow i ds hi
              have hpZ : p ∈ Z := (memZ p).mpr ⟨List.mem_append_left _ (ownd_mem hi q1), fun hp => by
                rcases (m4 p).mp hp with ⟨j, hj, e⟩ | hT
                · obtain ⟨es, he⟩ := m5 j hj
                  have := own_one r1 hi he q1 e
                  subst this
                  exact hm hj
                · exact disj p (ownd_mem hi q1) hT⟩
              exact ⟨p, us, q1, (pa.xs p hpZ).trans q2, dpAll_mono exM q3⟩
          · rcases List.mem_append.mp hx with h | h
            · exact ra'.xs x (List.mem_append_left _ h)
            · rcases List.mem_append.mp h with h | h
              · obtain ⟨j, ds, k1, k2⟩ := u4 x h
                obtain ⟨p', us', z1, z2, _⟩ := ra'.ow j ds k1
                rw [List.getElem?_map, k2] at z1
                cases z1
                rw [z2]; simp
              · have hxZ : x ∈ Z := (memZ x).mpr ⟨List.mem_append_right _ (List.mem_append_right _ h), fun hp => by
                  rcases (m4 x).mp hp with ⟨j, hj, e⟩ | hT
                  · obtain ⟨es, he⟩ := m5 j hj
                    exact (List.nodup_append.mp nd1).2.2 x (ownd_mem he e) x (List.mem_append_right _ h) rfl
                  · exact (List.nodup_append.mp (List.nodup_append.mp nd1).2.1).2.2 x hT x h rfl⟩
                rw [pa.xs x hxZ]
                exact r1.xs x (List.mem_append_right _ h)
        have pmL : (L ++ (T ++ Xs)).Perm (T ++ (L ++ Xs)) := List.perm_append_comm_assoc _ _ _
        obtain ⟨R3, e3⟩ := rel_show (L := T) (rel_perm pmL R2)
        have ev3 := vis_perm (st := st2) (σ := σ) (H := H') pmL
        refine ⟨R3, by rw [ev2, ev3]; exact e3, ?_, fun x hx => ?_, ol⟩
        · have e0 : Ex (vis Xs st σ H) (vis (T ++ Xs) st1 σ H1) := ex_hide p1.ex t1
          refine (e0.trans exM).trans ?_
          rw [ev3]
          exact e3
        · have hxZ : x ∈ Z := (memZ x).mpr ⟨List.mem_append_right _ (List.mem_append_right _ hx), fun hp => by
            rcases (m4 x).mp hp with ⟨j, hj, e⟩ | hT
            · obtain ⟨es, he⟩ := m5 j hj
              exact (List.nodup_append.mp nd1).2.2 x (ownd_mem he e) x (List.mem_append_right _ hx) rfl
            · exact (List.nodup_append.mp (List.nodup_append.mp nd1).2.1).2.2 x hT x hx rfl⟩
          exact pa.xs x hxZ
      refine ⟨Z, a, ra, ?_⟩
      cases e : φ a with
      | no => rw [e] at g; exact g.elim
      | ok z a' =>
        rw [e] at g
        intro v H' pa qa
        dsimp only at g
        split at g
        · next st2 hu =>
          obtain ⟨b1, b2, b3, b4, b5⟩ := back (L := []) hu pa pa.rel (fun _ h => by cases h)
          have P : Post K Xs st σ H st2 H' := ⟨b1, b3, fun x hx => (b4 x hx).trans (p1.xs x hx), fun y hy => p1.dom y (pa.dom y hy), p1.ol.trans b5⟩
          refine g v H' P ⟨dp_mono b2 qa.dp, fun hz => ?_⟩
          obtain ⟨p, us, ds, h1, h2, h3, h4, h5, h6⟩ := qa.fr hz
          obtain ⟨c1, c2, _, _, _⟩ := back (L := [p]) hu pa h6 (fun x hx => by rw [List.mem_singleton.mp hx]; exact h3)
          exact ⟨p, us, ds, h1, h2, p1.dom p h3, h4, dpAll_mono c2 h5, c1⟩
        · exact g.elim
      | ex c d a' =>
        rw [e] at g
        intro dx v H' pa h1 h2
        dsimp only at g
        split at g
        · next st2 hu =>
          obtain ⟨b1, b2, b3, b4, b5⟩ := back (L := []) hu pa pa.rel (fun _ h => by cases h)
          exact g dx v H' ⟨b1, b3, fun x hx => (b4 x hx).trans (p1.xs x hx), fun y hy => p1.dom y (pa.dom y hy), p1.ol.trans b5⟩ (b2 _ _ h1) (dp_mono b2 h2)
        · exact g.elim
  · exact g.elim
variable {X : Cx} {w : Wi} {x : Str} {p pos : Pos} {e : Expr} {es : List Expr} {ags : List Ag} {k : Nat} {f : Addr} {fd : FuncData} {ps : List Str} {φ : EvE}
theorem xg_v {ev : EvE} (ha : PE X e (tE X.K w ev)) (hr : PA X es (agT X.K w ags)) (hs : starEach (e :: es) X.env = (false, eval e X.env) :: starEach es X.env := by rfl) : PA X (e :: es) (agT X.K w (.v ev :: ags)) := pa_cons ha hr hs
theorem xg_tmp {ev : EvE} (ha : PE X e (tE X.K w ev)) (hr : PA X es (agT X.K w ags)) (hs : starEach (e :: es) X.env = (false, eval e X.env) :: starEach es X.env := by rfl) : PA X (e :: es) (agT X.K w (.tmp ev :: ags)) := pa_cons ha hr hs
theorem xg_io (i : Nat) {n : Str} {np : Pos} (hr : PA X es (agT X.K w ags)) (hN : X.N[i]? = some n := by rfl) (hv : Vis X.env.scope n := by first | exact Or.inl rfl | exact Or.inr (Or.inl rfl) | exact Or.inr (Or.inr rfl)) (hd : (n == ("__debug__" : Str)) = false := by decide)
    (hcd : (n == ("__classdict__" : Str)) = false := by decide) : PA X (.Name n np :: es) (agT X.K w (.io i :: ags)) := pa_cons (pe_var hN hv hd hcd) hr
theorem xg_end : PA X [] (agT X.K w []) := pa_nil
theorem x_callA (F : FnOk X.prog X.w X.K X.mg X.base (L2.CX X.prog X.w) k f fd ps (spF X.K w.cl φ)) (hr : Room k X.A) (hm : X.mg x = some (.ref f)) (hk : PySem.W.keepIn X.K (.ref f) = true) (hb : Binds X.K fd ps []) (tk : Takes X w.W) (ha : PA X (e :: es) (agT X.K w ags))
    (hg : Gl X x := by rfl) (hdb : (x == ("__debug__" : Str)) = false := by decide) (he : starEach (e :: es) X.env = (false, eval e X.env) :: starEach es X.env := by rfl) (hpl : (backTo pos (starEach es X.env)).any (·.1) = false := by rfl) :
    PE X (.Call (.Name x p) (e :: es) [] pos) (tE X.K w (eCallA ags φ)) :=
  PE.of (pe_callS (E := WE w.W) F hr hg hm hk hb (fun σ => passAt tk σ) ha hdb he hpl) fun σ H Q h => callA_of h
end
end TX

end

section
set_option Elab.async false
set_option linter.all false
set_option maxRecDepth 100000
set_option maxHeartbeats 2000000
namespace PySem
namespace TellX
open PySem.W PySem.Calls PyProof.Rows PySem.HandSPX
/-! ### the text of __init__ -/
def iA (p1 p2 : Pos) : Arguments := { posonlyargs := [], args := [{ arg := "self", annotation := none, pos := p1 }, { arg := "value", annotation := none, pos := p2 }], vararg := none, kwonlyargs := [], kw_defaults := [], kwarg := none, defaults := [] }
def iB (q1 q2 q3 q4 : Pos) : List Stmt := [.Assign [.Attribute (.Name "self" q1) "value" q2] (.Name "value" q3) q4]
def iS : Scope := { kind := .function, names := [(PySem.Str.ofString "self", .local), (PySem.Str.ofString "value", .local)], isGenerator := false, isCoroutine := false, more := [] }
/-- what the written part says of Low, at C, and of its __init__, at fI -/
structure TellTxt (K : Frag) (C fI : Addr) : Prop where
  cls : ∃ nm q N bs bm sn sub ab col dd k0 k1 k2 k3 k5, K.lookup C = some (excClassObj nm q C N bs bm true sn sub ab col dd k0 k1 k2 k3 k5 "ValueError.__new__") ∧ refsVE bm = true
  sa : findIn K (.ref C) "__setattr__" = some (some (.builtin "object.__setattr__"))
  ga : findIn K (.ref C) "__getattribute__" = some (some (.builtin "BaseException.__getattribute__"))
  gg : findIn K (.ref C) "__getattr__" = some none
  noN : findIn K (.ref C) "value" = some none
  iC : findIn K (.ref C) "__init__" = some (some (.ref fI))
  tC : typeIn K (.ref fI) = some (.type "function")
  kC : keepIn K (.ref C) = true
  exC : subIn K (.ref C) (.type "BaseException") = some true
  tyC : typeIn K (.ref C) = some (.type "type")
  hdC : hasDictIn K C = true
  te : exmOne K (.ref C) (.ref C) = some true
  fn : ∃ (oc : Value) (od : Option Addr) (kV doc pm : Value) (an : Option Addr) (cdv ct : Value) (osl : Array (Option Value)) (p1 p2 q1 q2 q3 q4 : Pos),
    K.lookup fI = some ⟨oc, od, .func (fnOf "__init__" "TellError.__init__" (iA p1 p2) (iB q1 q2 q3 q4) iS .none kV doc pm an cdv ct), osl⟩ ∧ codeIn K cdv "TellError.__init__" = true
theorem one_size (v : Value) : [v].length ≤ sizeLine := by
  rw [sizeLine_eq]
  exact (by decide : 1 ≤ 16777216)
theorem kept_but {K : Frag} {h h' : Heap} {x : Addr} (X : K.In h) (hx : K.lookup x = none) (k : ∀ b o, b ≠ x → h.get? b = some o → h'.get? b = some o) : K.In h' := fun a o e =>
  k a o (fun z => by rw [z, hx] at e; cases e) (X a o e)
theorem ldC {M : Model} {s : Shared} {name : Str} {scope : Scope} {L a : Addr} {cd : Value} {m : Str → Option Value} {x : Str} {pos : Pos} {v : Value} {Q : Value → Shared → Prop} {A : Around} {E : Value → Shared → Prop} (hn : s.heap.Ns L m) (hv : m x = some v) (h : Q v s)
    (hk : scope.kind = .function := by rfl) (hl : (envOfC name scope L a cd).kindOf x = some .local := by rfl) (hd : (x == ("__debug__" : Str)) = false := by decide) :
    wpAny M A (eval (.Name x pos) (envOfC name scope L a cd)) Q E s := wpAny_Name (wpAny_loadName_local hk hl hn hv h) hd
/-- what __init__ leaves of a fresh exception at x -/
structure InitEnd (h h' : Heap) (x C dx t1 : Addr) (v : Value) : Prop where
  keep : ∀ b o, b ≠ x → h.get? b = some o → h'.get? b = some o
  obj : h'.get? x = some { cls := .ref C, dict := some dx, data := .fields #[.ref t1, .none, .none, .none, .bool false, .none] }
  dbig : h.objs.size ≤ dx
  dne : dx ≠ x
  ns : h'.Ns1 dx (fun y => if y = "value" then some v else none)
/-- a made Low -/
structure OwnMade (h h' : Heap) (e C d : Addr) (v : Value) : Prop where
  keep : ∀ b o, h.get? b = some o → h'.get? b = some o
  new : h.objs.size ≤ e
  obj : ∃ oe vs, h'.get? e = some oe ∧ oe.cls = .ref C ∧ oe.dict = some d ∧ oe.data = .fields vs ∧ vs[1]? = some .none
  dbig : h.objs.size ≤ d
  dne : d ≠ e
  ns : h'.Ns1 d (fun y => if y = "value" then some v else none)
section
variable {prog : Program} {w : World} {A : Around} {E : Value → Shared → Prop} {R : Result → Shared → Prop} {s : Shared} {K : Frag} {mg : Str → Option Value} {C fI : Addr}
theorem tell_init (T : TellTxt K C fI) {x t0 : Addr} {v : Value} (X : K.In s.heap) (hlim : s.heap.NoLimit) (hx : s.heap.get? x = some (excO C t0)) (hnx : K.lookup x = none) (hroom : A.depth < recursionLimit)
    (hq : ∀ h' tk dx, InitEnd s.heap h' x C dx t0 v → R (.ok (.ret .none)) { s with heap := h', toks := tk }) :
    codeAny (model prog w) A (.call (.ref fI) ⟨[.ref x, v], []⟩) R s := by
  obtain ⟨oc, od, kV, doc, pm, an, cdv, ct, osl, p1, p2, q1, q2, q3, q4, ho, hcd⟩ := T.fn
  obtain ⟨nm, q, N, bs, bm, sn, sub, ab, col, dd, k0, k1, k2, k3, k5, hC, hbm⟩ := T.cls
  have hcl : clsIn K C = some { name := nm, bases := bs, mro := .ref C :: bm, ns := N, qualname := q, hasDict := true, slotNames := sn, subclasses := sub, abstract := ab, collection := col, hasDel := false } := by unfold clsIn; rw [hC] <;> rfl
  refine Att.call_fn (binds := [("self", .ref x), ("value", v)]) X hlim ho hcd hroom (BindsTo.of_eq (by first | rfl | with_unfolding_all rfl)) (by first | rfl | decide | with_unfolding_all rfl) (fun s₁ IC => ?_) rfl rfl rfl
  obtain ⟨h₁, tk₁, rfl⟩ := IC.toInCall.same
  have k : ∀ b o, s.heap.get? b = some o → h₁.get? b = some o := IC.toInCall.keep
  have hn := IC.toInCall.ns
  have hxL : s.heap.objs.size ≠ x := Nat.ne_of_gt (Heap.lt_size hx)
  have X₁ : K.In h₁ := X.keeps k
  have hx₁ := k _ _ hx
  -- self.by = by
  show wpAny _ _ (execs _ _) _ _ _
  refine wpAny_execs_cons (plainObj_wpAny_Assign_Attribute ?_)
  refine ldC (v := v) hn (by first | rfl | with_unfolding_all rfl | kernel_rfl) (ldC (v := .ref x) hn (by first | rfl | with_unfolding_all rfl | kernel_rfl) ?_)
  refine set_plain X₁ (ox := excO C t0) (od := none) ⟨hx₁, rfl, rfl, trivial⟩ T.sa ?_
  refine exc_osa X₁ hx₁ hcl (show refsVE (.ref C :: bm) = true from hbm) rfl T.noN (fun h₃ tk₃ dx k₃ dn dne hx₃ hn₃ => ?_)
  show wpAny _ _ (execs _ _) _ _ _
  have z : s.heap.objs.size < h₁.objs.size := hn.lt
  exact wpAny_execs_nil (hq h₃ tk₃ dx ⟨fun b o hb e => k₃ b o hb (k b o e), hx₃, Nat.le_of_lt (Nat.lt_of_lt_of_le z dn), dne, hn₃⟩)
theorem tell_made (T : TellTxt K C fI) {v : Value} (X : K.In s.heap) (hlim : s.heap.NoLimit) (hroom : A.depth + 1 < recursionLimit)
    (hq : ∀ h' tk e d, OwnMade s.heap h' e C d v → R (.ok (.ret (.ref e))) { s with heap := h', toks := tk }) :
    codeAny (model prog w) A (.call (.ref C) ⟨[v], []⟩) R s := by
  obtain ⟨nm, q, N, bs, bm, sn, sub, ab, col, dd, k0, k1, k2, k3, k5, hC, hbm⟩ := T.cls
  obtain ⟨hp, g, dr, tk, os⟩ := s
  have k : ∀ b o, hp.get? b = some o → ((hp.push (kdv_tup [v])).push (excO C hp.objs.size)).get? b = some o := fun b o e => Heap.get?_push_of_some _ (Heap.get?_push_of_some _ e)
  have hget : ((hp.push (kdv_tup [v])).push (excO C hp.objs.size)).get? (hp.objs.size + 1) = some (excO C hp.objs.size) := by heap_get
  have hnx : K.lookup (hp.objs.size + 1) = none := by
    cases e : K.lookup (hp.objs.size + 1) with
    | none => rfl
    | some o =>
      have z : hp.get? (hp.objs.size + 1) = some o := X _ _ e
      exact absurd (Nat.lt_of_succ_lt (Heap.lt_size z)) (Nat.lt_irrefl _)
  refine call_own F.excBase_ValueError (fun X => refsVE_contains X bm hbm) (X _ _ hC) (looks_findIn X T.iC) (fun self => bind_fn X self T.tC) (one_size v) ?_
  refine tell_init (s := ⟨(hp.push (kdv_tup [v])).push (excO C hp.objs.size), g, dr, tk, os⟩) T (X.keeps k) (hlim.keeps k) hget hnx ?_ fun h' tk' dx ⟨k', hx, dn, dne, hns⟩ => ?_
  · show A.depth + 1 < recursionLimit
    exact hroom
  · have old : ∀ b o, hp.get? b = some o → h'.get? b = some o := fun b o e => k' b o (Nat.ne_of_lt (Nat.lt_succ_of_lt (Heap.lt_size e))) (k b o e)
    have z : hp.objs.size + 1 + 1 ≤ dx := by
      first
        | (simpa only [Heap.size_push] using dn)
        | exact dn
        | (have q := dn; rw [Heap.size_push, Heap.size_push] at q; exact q)
    exact ⟨rfl, hq h' tk' (hp.objs.size + 1) dx ⟨old, Nat.le_succ _, ⟨_, _, hx, rfl, rfl, rfl, rfl⟩, Nat.le_trans (Nat.le_trans (Nat.le_succ _) (Nat.le_succ _)) z, dne, hns⟩⟩
end
end TellX
end PySem
namespace L2
open PySem PySem.Spec PyProof.Rows
theorem relO_tell {v : V} {v' : Value} (r : RelV v v') (f : Str) : RelO (List.lookup f [(("value" : Str), v)]) (if f = "value" then some v' else none) := by
  by_cases hw : f = "value"
  · subst hw
    rw [if_pos rfl]
    have q : List.lookup ("value" : Str) [(("value" : Str), v)] = some v := by simp [List.lookup]
    rw [q]
    exact r
  · rw [if_neg hw]
    have qw : (f == ("value" : Str)) = false := by simpa using hw
    have q2 : List.lookup f [(("value" : Str), v)] = none := by simp [List.lookup, qw]
    rw [q2]
    trivial
section
variable {X : Cx} {C fI : Addr}
/-- Low(e) -/
def tMkTell (C : Addr) (ta : TA) : St → Hp → XK → Prop := fun σ H Q => ta σ H fun vs H1 => ∃ v, vs = [v] ∧ ∀ d, H1 d = none → Q (.ref C) (some d) (upd H1 d (.xd [(("value" : Str), v)]))
theorem pmk_tell {a : Expr} {ta : TA} {nm : Str} {p pos : Pos} {k : Nat} (T : PySem.TellX.TellTxt X.K C fI) (hr : Room k X.A) (ha : PA X [a] ta) (gC : X.mg nm = some (.ref C)) (hg : Gl X nm := by rfl) (hdb : (nm == ("__debug__" : Str)) = false := by decide)
    (he : starEach (a :: []) X.env = (false, eval a X.env) :: starEach [] X.env := by rfl) (hpl : (backTo pos (starEach [] X.env)).any (·.1) = false := by rfl) :
    PMk X (.Call (.Name nm p) [a] [] pos) (tMkTell C ta) := by
  intro pins s σ H Q I h
  refine wpAny_Call_Name_kw (ld_glob I hg gC ?_ hdb)
  refine PySem.W.callWith_K (h₀ := X.base) I.ok.mod.kin T.kC (thn (ha.run pos pins s σ H _ I h) fun us s1 hh => ?_) he hpl
  obtain ⟨vs, H1, I1, r1, v, ev, q1⟩ := hh
  subst ev
  refine ⟨I1.kIn, ?_⟩
  cases r1 with
  | cons rv rn =>
    rename_i v' us'
    cases rn
    show wpAny _ _ (call (.ref C) [v']) _ _ _
    have hlim := I1.nolimit
    obtain ⟨hp, g, dr, tk, os⟩ := s1
    refine wpAny_call (PySem.TellX.tell_made T I1.kIn hlim (by have := hr.dp; omega) fun h' tk' e d M => ?_)
    show MkP X pins σ Q (.ref e) ⟨h', g, dr, tk', os⟩
    obtain ⟨oe, fv, hoe, hc, hd, hdat, h1⟩ := M.obj
    have hns := M.ns
    obtain ⟨G', g1, g2⟩ := restrict h' fun b => decide (b ≠ e)
    have gk : ∀ b, b ≠ e → G'.get? b = h'.get? b := fun b hb => g1 b (decide_eq_true hb)
    have ge : G'.get? e = none := g2 e (by simp)
    have old : ∀ b o, hp.get? b = some o → G'.get? b = some o := fun b o q => (gk b (Nat.ne_of_lt (Nat.lt_of_lt_of_le (Heap.lt_size q) M.new))).trans (M.keep b o q)
    have ob : ObjOk X.prog X.w (upd H1 d (.xd [(("value" : Str), v)])) G' d (.xd [(("value" : Str), v)]) :=
      ⟨_, hns.at (fun o q => (gk d M.dne).trans q), fun f => relO_tell rv f⟩
    have J : Inv X pins σ (upd H1 d (.xd [(("value" : Str), v)])) ⟨G', g, dr, tk', os⟩ := I1.laid (t' := tk') old M.dbig ob
    refine ⟨e, oe, fv, ⟨G', g, dr, tk', os⟩, _, .ref C, some d, rfl, J, fun b o q => ?_, ge, hoe, ⟨hc, hd⟩, hdat, h1, ?_, rfl, I1.bare, raises_own T.exC T.tyC, q1 d (I1.hok.fresh M.dbig)⟩
    · by_cases hb : b = e
      · have q' : G'.get? b = some o := q
        rw [hb, ge] at q'; cases q'
      · exact (gk b hb).symm.trans q
    · rw [upd_ne (Ne.symm M.dne)]
      exact I1.hok.fresh M.new
/-- raise Low(e) -/
def tRaiseTell (C : Addr) (W : WX) (ta : TA) : TS := fun _ σ H => tMkTell C ta σ H fun cls d H' => W cls d σ H'
theorem ps_raiseTell {a : Expr} {ta : TA} {W : WX} {nm : Str} {p pos pos2 : Pos} {k : Nat} (hc : X.calm = true) (T : PySem.TellX.TellTxt X.K C fI) (hr : Room k X.A) (tk : Takes X W) (ha : PA X [a] ta) (gC : X.mg nm = some (.ref C)) (hg : Gl X nm := by rfl) (hdb : (nm == ("__debug__" : Str)) = false := by decide)
    (he : starEach (a :: []) X.env = (false, eval a X.env) :: starEach [] X.env := by rfl) (hpl : (backTo pos (starEach [] X.env)).any (·.1) = false := by rfl) :
    PS X (.Raise (some (.Call (.Name nm p) [a] [] pos)) none pos2) (tRaiseTell C W ta) := ps_raise hc tk (pmk_tell T hr ha gC hg hdb he hpl)
/-- low.by, low the exception that the suite holds (at a; its class cls, its dict d) -/
def tValTell (C : Addr) (a : Addr) (cls : Value) (d : Option Addr) (te : TE) : TE := fun σ H Q => te σ H fun x H1 => x = .ref a ∧ cls = .ref C ∧ ∃ (dd : Addr) (v : V), d = some dd ∧ H1 dd = some (.xd [(("value" : Str), v)]) ∧ Q v H1
theorem pe_valTell {a : Addr} {oe : Obj} {cls : Value} {d : Option Addr} {pn : List (Addr × Obj)} {e : Expr} {te : TE} {pos : Pos} (T : PySem.TellX.TellTxt X.K C fI) (hz : Zc cls d oe) (hf : ∃ vs, oe.data = .fields vs) (he : PE (X.suite a ((a, oe) :: pn)) e te)
    (hb : attributeBase e "value" X.env (eval e X.env) = eval e X.env := by rfl) :
    PE (X.suite a ((a, oe) :: pn)) (.Attribute e "value" pos) (tValTell C a cls d te) := by
  refine ⟨fun pins s σ H Q I h => ?_⟩
  refine attr_of hb (thn (he.run pins s σ H _ I h) fun u s1 hh => ?_)
  obtain ⟨x, H1, I1, rx, ex, ec, dd, v, ed, ea, q⟩ := hh
  subst ex
  obtain rfl : u = Value.ref a := rx
  subst ec
  subst ed
  obtain ⟨ha, _⟩ := I1.pin (a, oe) (List.mem_append_left _ List.mem_cons_self)
  obtain ⟨vs, hd⟩ := hf
  have hx : ObjOk X.prog X.w H1 s1.heap dd (.xd [(("value" : Str), v)]) := I1.hok dd _ ea
  obtain ⟨mA, hns, hr⟩ := hx
  obtain ⟨od, ho, hl⟩ := lookIn_ns hns
  have l : List.lookup ("value" : Str) [(("value" : Str), v)] = some v := by simp [List.lookup]
  obtain ⟨u, hu, ru⟩ := RelO.some_of (v := v) (o := mA "value") (by rw [← l]; exact hr "value")
  have J : PySem.W.InstAt s1.heap a oe C (some od) := ⟨ha, hz.1, by unfold PySem.W.notCls; rw [hd] <;> rfl, by rw [hz.2]; exact ho⟩
  exact HandSPX.exc_get I1.kIn J T.ga T.gg T.exC (PySem.W.findObj_own T.hdC T.noN rfl (by rw [hl, hu])) (handed_of ru) ⟨v, H1, I1.tok _, ru, q⟩
end
end L2

namespace TX
open PySem L2 Evl PyProof.Rows
/-! ### raise -/
def sRaise (c : Nat) (e : EvE) : EvS := fun st => (e st).toS fun z st1 => .ex c z.1 st1
section
variable {X : Cx} {w : Wi} {P : List Nat} {pos pos2 p : Pos} {nm : Str} {k : Nat} {fI : Addr}
theorem xs_raise (c : Nat) {e : Expr} {ev : EvE} (T : PySem.TellX.TellTxt X.K (w.cl c) fI) (gC : X.mg nm = some (.ref (w.cl c))) (hr : Room k X.A) (hc : X.calm = true) (tk : Takes X w.W) (he : PE X e (tE X.K w ev)) (hg : Gl X nm := by rfl) (hdb : (nm == ("__debug__" : Str)) = false := by decide)
    (hs : starEach (e :: []) X.env = (false, eval e X.env) :: starEach [] X.env := by rfl) (hpl : (backTo pos (starEach [] X.env)).any (·.1) = false := by rfl) : PS X (.Raise (some (.Call (.Name nm p) [e] [] pos)) none pos2) (tS X.K w P (sRaise c ev)) :=
  PS.of (ps_raiseTell hc T hr tk (pa_cons he pa_nil hs) gC hg hdb hs hpl) fun Dn σ H h => by
    obtain ⟨Xs, B, st, r, h⟩ := h
    show tE X.K w ev σ H _
    refine tE_S r h fun v H1 z st1 p1 p v1 h1 => ⟨v, rfl, fun d hd => ?_⟩
    have q := rel_new (o := .xd [(fV, v)]) p.rel.rel hd
    exact h1 d v σ _ (p.trans (.of p.rel q)) (by show msk _ _ d = _; rw [msk_out (rel_hid p.rel.rel hd), upd_same]) (dp_mono q.ex v1.dp)
end
/-! ### the value of a caught error -/
def fVal : D → Option R1 := fun d => match d with
  | .exc _ v => some (v, false)
  | _ => none
section
variable {X : Cx} {w : Wi} {pos : Pos}
theorem x_val {e : Expr} {ev : EvE} (he : PE X e (tE X.K w ev)) (hb : attributeBase e fV X.env (eval e X.env) = eval e X.env := by rfl) : PE X (.Attribute e fV pos) (tE X.K w (eUn fVal ev)) := by
  refine ⟨fun pins s σ H Q I h => ?_⟩
  obtain ⟨Xs, st, rel, h⟩ := h
  have h2 : tE X.K w ev σ H fun x H1 => ∃ a C dx v, x = .ref a ∧ GoodC X.K C ∧ H1 a = some (xo a (.ref C) (some dx)) ∧ H1 dx = some (.xd [(fV, v)]) ∧ Q v H1 := tE_seq rel h fun x H1 rx st1 p1 v1 h1 => by
    have dp := v1.dp
    revert h1 dp
    cases rx.1 with
    | exc C d =>
      intro h1 dp
      cases dp with
      | exc g e1 e2 e3 => exact ⟨_, C, _, _, rfl, g, msk_ex _ _ e1, msk_ex _ _ e2, h1 _ H1 p1 (.old e3)⟩
    | _ => intro h1; exact h1.elim
  refine attr_of hb (thn (he.run pins s σ H _ I h2) fun u s1 hh => ?_)
  obtain ⟨x, H1, I1, rx, a, C, dx, v, ex, g, ea, ed, q⟩ := hh
  subst ex
  obtain rfl : u = Value.ref a := rx
  obtain ⟨⟨oe, vs, ho, hoc, hod, hof⟩, _, _⟩ := (show ObjOk X.prog X.w H1 s1.heap a (xo a (.ref C) (some dx)) from I1.hok a _ ea)
  obtain ⟨mA, hns, hrel⟩ := (show ObjOk X.prog X.w H1 s1.heap dx (.xd [(fV, v)]) from I1.hok dx _ ed)
  obtain ⟨od, hdd, hl⟩ := lookIn_ns hns
  have lk : List.lookup fV [(fV, v)] = some v := by simp [List.lookup]
  obtain ⟨u2, hu, ru⟩ := RelO.some_of (v := v) (o := mA fV) (by rw [← lk]; exact hrel fV)
  have J : PySem.W.InstAt s1.heap a oe C (some od) := ⟨ho, hoc, by unfold PySem.W.notCls; rw [hof] <;> rfl, by rw [hod]; exact hdd⟩
  exact HandSPX.exc_get I1.kIn J g.ga g.gg g.exC (PySem.W.findObj_own g.hdC g.noV rfl (by rw [hl, hu])) (handed_of ru) ⟨v, H1, I1.tok _, ru, q⟩
end
end TX

end

section
set_option Elab.async false
set_option linter.all false
set_option maxRecDepth 100000
set_option maxHeartbeats 2000000
namespace TX
open PySem PySem.Spec L2 Evl PyProof.Rows

/-! ### try: .. except X as n: .. -/
/-- the wishes of the clauses: the class, the place of the name, the suite's reading; the error is a thing of its own from here on -/
def wEx (K : PySem.W.Frag) (Wout : WX) (Dn : Ends) : List (Value × Option Nat × TS) → WX
  | [] => Wout
  | (c, io, ts) :: r => fun cls d σ H => ∃ b, PySem.W.exmOne K cls c = some b ∧ (b = true → ∀ a, H a = none → match io with
      | none => ts Dn σ (upd H a (xo a cls d))
      | some i => ts { nx := fun σ' H' => Dn.nx (σ'.set i none) H', rt := Dn.rt, bk := fun σ' H' => Dn.bk (σ'.set i none) H', ct := fun σ' H' => Dn.ct (σ'.set i none) H' } (σ.set i (some (.ref a))) (upd H a (xo a cls d))) ∧
    (b = false → wEx K Wout Dn r cls d σ H)
inductive Cls (X : Cx) : List ExceptHandler → List (Value × Option Nat × TS) → Prop
  | nil : Cls X [] []
  | anon {x : Str} {c : Value} {ts : TS} {b₀ : Stmt} {suite : List Stmt} {np pos' : Pos} {r : List ExceptHandler} {l : List (Value × Option Nat × TS)} (hc : Names X x c) (hs : ∀ (a : Addr) (pn : List (Addr × Obj)), PSs (X.suite a pn) (b₀ :: suite) ts) (hr : Cls X r l) :
      Cls X (.ExceptHandler (some (.Name x np)) none (b₀ :: suite) pos' :: r) ((c, none, ts) :: l)
  | named {x n : Str} {i : Nat} {c : Value} {ts : TS} {b₀ : Stmt} {suite : List Stmt} {np pos' : Pos} {r : List ExceptHandler} {l : List (Value × Option Nat × TS)} (hc : Names X x c) (hi : X.N[i]? = some n) (hl : X.env.kindOf n = some .local)
      (hs : ∀ (a : Addr) (pn : List (Addr × Obj)), PSs (X.suite a pn) (b₀ :: suite) ts) (hr : Cls X r l) : Cls X (.ExceptHandler (some (.Name x np)) (some n) (b₀ :: suite) pos' :: r) ((c, some i, ts) :: l)
section
variable {X : Cx} {pins : List (Addr × Obj)} {σ : L2.St} {H : Hp} {s : Shared}
/-- a caught error is seen -/
theorem inv_caught {a : Addr} {oe : Obj} {vs : Array Value} {cls : Value} {d : Option Addr} (J : Inv X pins σ H s) (he : s.heap.get? a = some oe) (hd : oe.data = .fields vs) (hz : Zc cls d oe) (na : H a = none) (nL : a ≠ X.env.locals) (n0 : X.s_0.heap.get? a = none) (np : ∀ q ∈ X.pn ++ pins, q.1 ≠ a) (nF : a ∉ X.fs) :
    Inv (X.suite a (X.pn ++ pins)) [] σ (upd H a (xo a cls d)) s := by
  have old : ∀ b u, H b = some u → b ≠ a := fun b u e z => by rw [z, na] at e; cases e
  have old0 : ∀ b o, X.s_0.heap.get? b = some o → b ≠ a := fun b o e z => by rw [z, n0] at e; cases e
  refine ⟨J.ok.suite _ _, J.os, J.bare, ⟨J.base.keep, J.base.slot, fun b o e1 e2 e3 => ?_, J.base.there, fun b xs e => ?_, fun b o u e => ?_, fun b ps e => ?_⟩, J.loc, J.cell, ?_, fun y c e => ?_, fun q hq => ?_, fun b u e => ?_, J.len⟩
  · rw [upd_ne (old0 b o e1)]
    exact J.base.free b o e1 e2 e3
  · have z := J.base.tups b xs e
    rw [upd_ne (old b _ z)]
    exact z
  · have z := J.base.frzs b o u e
    rw [upd_ne (old b _ z)]
    exact z
  · obtain ⟨more, z⟩ := J.base.tbls b ps e
    exact ⟨more, by rw [upd_ne (old b _ z)]; exact z⟩
  · show upd H a _ X.env.locals = none
    rw [upd_ne (Ne.symm nL)]
    exact J.free
  · have ca : c ≠ a := fun z => by
      obtain ⟨v, o, ho, hv⟩ := J.cell y c e
      rw [z, he] at ho
      cases ho
      rw [hd] at hv
      cases hv
    rw [upd_ne ca]
    exact J.freeC y c e
  · have hq' : q ∈ X.pn ++ pins := by rw [List.append_nil] at hq; exact hq
    obtain ⟨k1, k2, k3, k4, k5⟩ := J.pin q hq'
    exact ⟨k1, by rw [upd_ne (np q hq')]; exact k2, k3, k4, k5⟩
  · by_cases hb : b = a
    · rw [hb, upd_same] at e
      cases e
      rw [hb]
      refine ⟨⟨oe, vs, he, hz.1, hz.2, hd⟩, ⟨oe, he⟩, fun h1 h2 ⟨o1, w1, k1, k2, k3, k4⟩ kk => ⟨o1, w1, kk _ k1, k2, k3, k4⟩⟩
    · rw [upd_ne hb] at e
      refine (J.hok b u e).stay (fun _ _ _ z => z) (fun x z => ?_) fun x xs z => ?_
      · rw [upd_ne (old x _ z)]; exact z
      · rw [upd_ne (old x _ z)]; exact z
theorem inv_past {a : Addr} {pn' : List (Addr × Obj)} {σ' : L2.St} {H' : Hp} {s' : Shared} (J : Inv (X.suite a (X.pn ++ pins)) pn' σ' H' s') (ok : X.Ok) : Inv X pins σ' H' s' :=
  ⟨ok, J.os, J.bare, J.base, J.loc, J.cell, J.free, J.freeC, fun q hq => J.pin q (List.mem_append_left _ hq), J.hok, J.len⟩
theorem ps_tryEx {body : List Stmt} {h₀ : ExceptHandler} {hds : List ExceptHandler} {l : List (Value × Option Nat × TS)} {pos : Pos} {tb : WX → TS} {Wout : WX} (hs : X.stack = X.env :: X.outer) (hf : X.env.frame = some X.env.locals) (hex : X.ex = []) (hN : X.N.Nodup) (tk : Takes X Wout)
    (hb : ∀ (W : WX) (pn : List (Addr × Obj)) (xe : Value → Shared → Prop), Takes (X.tr pn xe) W → PassesOwn (model X.prog X.w) X.A X.env xe → PSs (X.tr pn xe) body (tb W)) (hh : Cls X (h₀ :: hds) l) :
    PS X (.Try body (h₀ :: hds) [] [] pos) (fun Dn σ H => tb (wEx X.K Wout Dn l) Dn σ H) := by
  refine ⟨fun pins s σ H Dn I h => ?_⟩
  have ok := I.ok
  have hfr : X.A.frames = some (X.env :: X.outer) := by rw [ok.frames, hs]
  refine wpAny_Try_except ?_
  refine wpAny_mono ((hb (wEx X.K Wout Dn l) (X.pn ++ pins) (fun e s₁ => wpAny (model X.prog X.w) X.A (noteFrame e X.env) (fun _ s₂ => wpAny (model X.prog X.w) X.A (setFlight e none) (fun _ s₃ =>
    wpAny (model X.prog X.w) X.A (handleBy e X.env (h₀ :: hds)) (SP X pins Dn) X.xe s₃) X.xe s₂) X.xe s₁) (fun u s' xx => ?_) PassesOwn.looking).run [] s σ H Dn (I.toTry _) h) (fun f s1 hsp => ?_) (fun _ _ z => z)
  · obtain ⟨a, B, sI, pins', σ', H', cls, d, rfl, J', nb, up, sky, na, os, ag, w⟩ := xx
    have J : Inv X pins σ' H' sI := J'.ofTry ok
    have sky2 : Sky B (X.env :: X.outer) a (Zc cls d) X.env.locals s'.heap := by rw [← hs]; exact sky
    refine Sky.land Zc.steady hfr hf sky2 fun h3 f3 up3 => ?_
    have J3 : Inv X pins σ' H' { s' with heap := h3 } := J.landed nb f3.1 (up.trans up3) os ag
    obtain ⟨o3, v3, e3, z3, d3⟩ := f3.there
    have nfr : a ∉ frs (X.env :: X.outer) := fun hm => by
      obtain ⟨_, o', e', hn'⟩ := f3.2.2.1.mem hm
      rw [e3] at e'
      cases e'
      exact hn' _ d3
    have nL : a ≠ X.env.locals := fun z => nfr (List.mem_filterMap.mpr ⟨X.env, List.mem_cons_self, by rw [hf, z]⟩)
    have nF : a ∉ X.fs := fun hm => by
      obtain ⟨e, k1, k2⟩ := List.mem_filterMap.mp hm
      exact nfr (List.mem_filterMap.mpr ⟨e, List.mem_cons_of_mem _ k1, k2⟩)
    have nI : sI.heap.get? a = none := by
      cases e : sI.heap.get? a with
      | none => rfl
      | some o =>
        have z := nb a o e (by rw [hs]; exact nfr)
        rw [f3.2.1] at z
        cases z
    have n0 : X.s_0.heap.get? a = none := by
      cases e : X.s_0.heap.get? a with
      | none => rfl
      | some o =>
        obtain ⟨o', z⟩ := J.base.there a o e (by rw [hex]; simp)
        rw [nI] at z
        cases z
    have np : ∀ q ∈ X.pn ++ pins, q.1 ≠ a := fun q hq z => by
      have k := (J.pin q hq).1
      rw [z, nI] at k
      cases k
    have S3 := J3.suite e3 d3 na nL nF
    have go : ∀ {hs2 : List ExceptHandler} {l2 : List (Value × Option Nat × TS)}, Cls X hs2 l2 → wEx X.K Wout Dn l2 cls d σ' H' → wpAny (model X.prog X.w) X.A (handleBy (.ref a) X.env hs2) (SP X pins Dn) X.xe { s' with heap := h3 } := by
      intro hs2 l2 hk
      have LT : PySem.W.Looks (model X.prog X.w) h3 (typeOf (.ref a)) cls := fun A Q E s k q => wpAny_typeOf_ref (k _ _ e3) (by rw [z3.1]; exact q)
      have test : ∀ {x : Str} {c : Value} {np : Pos} {Q : Value → Shared → Prop} {E : Value → Shared → Prop}, Names X x c → Q c { s' with heap := h3 } → wpAny (model X.prog X.w) (X.A.mark (some (.ref a))) (eval (.Name x np) X.env) Q E { s' with heap := h3 } := fun {x c np Q E} hc q => by
        obtain ⟨k1, k2, k3 | ⟨k3, k4, k5⟩⟩ := hc
        · exact ld_glob (X := X.suite a ((a, o3) :: (X.pn ++ pins))) S3 k1 k3 q k2
        · exact ld_blt (X := X.suite a ((a, o3) :: (X.pn ++ pins))) S3 k1 k3 k4 q k5 k2
      induction hk with
      | nil =>
        intro w
        refine wpAny_handleBy_nil ?_
        obtain ⟨_, _, _, oe, ws, T, oT, ts', he, hz, hd, h1, hr⟩ := id f3
        unfold PySem.passOn
        refine wpAny_bind (wpAny_field he hd h1 ?_)
        rw [if_neg (show ¬ ((Value.ref T == Value.none) = true) from by simp)]
        have fin : wpAny (model X.prog X.w) X.A (setFlight (.ref a) X.env.frame) (fun _ s4 => wpAny (model X.prog X.w) X.A (throw (.ref a) : Sem Flow) (SP X pins Dn) X.xe s4) X.xe { s' with heap := h3 } := by
          rw [hf]
          refine HandSPX.setFlight_upZ f3 fun h4 hh4 up4 => wpAny_throw (tk _ _ ?_)
          exact ⟨a, B, sI, pins, σ', H', cls, d, rfl, J, nb, (up.trans up3).trans up4, .inr (.inr (by rw [hs]; exact hh4)), na, os, ag, w⟩
        first
          | exact wpAny_bind (wpAny_pure (wpAny_bind fin))
          | exact wpAny_bind fin
      | @anon x c ts b₀ suite np2 pos' r l3 hc hsu hr ih =>
        intro w
        obtain ⟨b, hb1, yes, no⟩ := w
        refine wpAny_handleBy_cons (codeAny_handlers_test ?_) (by intro q; cases q)
        refine test hc ((PySem.W.exm_one (M := model X.prog X.w) (J3.kIn) LT hb1).here ?_)
        cases b with
        | true =>
          refine codeAny_handlers_suite ?_
          refine HandSPX.lands_againZ f3 fun h4 f4 up4 => ?_
          have J4 : Inv X pins σ' H' { s' with heap := h4 } := J.landed nb f4.1 ((up.trans up3).trans up4) os ag
          obtain ⟨o4, v4, e4, z4, d4⟩ := f4.there
          refine wpAny_mono ((hsu a (X.pn ++ pins)).run [] _ _ _ _ (inv_caught J4 e4 d4 z4 na nL n0 np nF) (yes rfl a na)) (fun f s6 r6 => ?_) (fun _ _ z => False.elim z)
          match f, r6 with
          | .next, ⟨_, _, S6, q6⟩ => exact ⟨_, _, inv_past S6 ok, q6⟩
          | .brk, ⟨_, _, S6, q6⟩ => exact ⟨_, _, inv_past S6 ok, q6⟩
          | .cont, ⟨_, _, S6, q6⟩ => exact ⟨_, _, inv_past S6 ok, q6⟩
          | .ret u, ⟨_, _, _, S6, r6, q6⟩ => exact ⟨_, _, _, inv_past S6 ok, r6, q6⟩
        | false => exact ih (no rfl)
      | @named x n i c ts b₀ suite np2 pos' r l3 hc hi hl hsu hr ih =>
        intro w
        obtain ⟨b, hb1, yes, no⟩ := w
        refine wpAny_handleBy_cons (codeAny_handlers_test ?_) (by intro q; cases q)
        refine test hc ((PySem.W.exm_one (M := model X.prog X.w) (J3.kIn) LT hb1).here ?_)
        cases b with
        | true =>
          refine codeAny_handlers_suite_as ?_
          refine HandSPX.lands_againZ f3 fun h4 f4 up4 => ?_
          have J4 : Inv X pins σ' H' { s' with heap := h4 } := J.landed nb f4.1 ((up.trans up3).trans up4) os ag
          obtain ⟨o4, v4, e4, z4, d4⟩ := f4.there
          refine store_ok (X := X.suite a (X.pn ++ pins)) (v := .ref a) (inv_caught J4 e4 d4 z4 na nL n0 np nF) hN hi (.inl hl) rfl (fun s5 S5 => ?_) (.inr hl)
          refine wpAny_mono ((hsu a (X.pn ++ pins)).run [] s5 _ _ _ S5 (yes rfl a na)) (fun f s6 r6 => ?_) (fun _ _ z => False.elim z)
          have gone : ∀ {σ6 : L2.St} {H6 : Hp} {Q : Shared → Prop}, Inv (X.suite a (X.pn ++ pins)) [] σ6 H6 s6 → (∀ s7, Inv X pins (σ6.set i none) H6 s7 → Q s7) →
              wpAny (model X.prog X.w) X.A (do bindName X.env n .none; unbindBehindTheSuite X.env n pos') (fun _ s7 => Q s7) X.xe s6 := fun {σ6 H6 Q} S6 hq => gone_ok (inv_past S6 ok) hN hi hl hq
          match f, r6 with
          | .next, ⟨_, _, S6, q6⟩ => exact gone S6 fun s7 J7 => ⟨_, _, J7, q6⟩
          | .brk, ⟨_, _, S6, q6⟩ => exact gone S6 fun s7 J7 => ⟨_, _, J7, q6⟩
          | .cont, ⟨_, _, S6, q6⟩ => exact gone S6 fun s7 J7 => ⟨_, _, J7, q6⟩
          | .ret u, ⟨_, _, _, S6, r6, q6⟩ => exact gone S6 fun s7 J7 => ⟨_, _, _, J7, r6, q6⟩
        | false => exact ih (no rfl)
    exact go hh w
  · match f, hsp with
    | .next, ⟨σ2, H2, J2, q⟩ => exact wpAny_execs_nil ⟨σ2, H2, J2.ofTry ok, q⟩
    | .brk, ⟨σ2, H2, J2, q⟩ => exact ⟨σ2, H2, J2.ofTry ok, q⟩
    | .cont, ⟨σ2, H2, J2, q⟩ => exact ⟨σ2, H2, J2.ofTry ok, q⟩
    | .ret u, ⟨v, σ2, H2, J2, r, q⟩ => exact ⟨v, σ2, H2, J2.ofTry ok, r, q⟩
end

/-! ### its tree -/
/-- clauses: the class's number, the name's place, the suite -/
abbrev Hdl := List (Nat × Option Nat × EvS)
def isOw : Option Sl → Bool
  | some (.ow _) => true
  | _ => false
def noEx : SO → SO
  | .ex _ _ _ => .no
  | o => o
/-- the first clause that takes the error (mt: which classes are which) -/
def sHand (P : List Nat) (cl : Nat → Addr) (mt : Nat → Nat → Bool) (c : Nat) (d : D) (st : List Sl) : Hdl → SO
  | [] => .ex c d st
  | (k, none, ev) :: r => if mt c k = true then noEx (ev st) else sHand P cl mt c d st r
  | (k, some i, ev) :: r => if mt c k = true then (if i ∈ P ∨ st.length ≤ i then .no else match noEx (ev (st.set i (.pu (.exc (cl c) d)))) with
        | .nx s => .nx (s.set i .un)
        | .bk s => .bk (s.set i .un)
        | .ct s => .ct (s.set i .un)
        | o => o) else sHand P cl mt c d st r
def sTry (P : List Nat) (cl : Nat → Addr) (mt : Nat → Nat → Bool) (n : Nat) (body : EvS) (hs : Hdl) : EvS := fun st => match body st with
  | .ex c d st' => if c < n then sHand P cl mt c d st' hs else .no
  | o => o
abbrev wF (cl : Nat → Addr) : Wi := ⟨fun _ _ _ _ => False, cl⟩
/-- what the program's text says of its error classes, the first n by their numbers -/
structure ErrK (K : PySem.W.Frag) (cl : Nat → Addr) (mt : Nat → Nat → Bool) (n : Nat) : Prop where
  ex : ∀ c k, c < n → k < n → PySem.W.exmOne K (.ref (cl c)) (.ref (cl k)) = some (mt c k)
  good : ∀ c, c < n → GoodC K (cl c)
inductive ClT (X : Cx) (cl : Nat → Addr) (n : Nat) (P : List Nat) : List ExceptHandler → Hdl → Prop
  | nil : ClT X cl n P [] []
  | anon {x : Str} {k : Nat} {ev : EvS} {b₀ : Stmt} {suite : List Stmt} {np pos' : Pos} {r : List ExceptHandler} {l : Hdl} (hk : k < n) (hc : Names X x (.ref (cl k))) (hs : ∀ (a : Addr) (pn : List (Addr × Obj)), PSs (X.suite a pn) (b₀ :: suite) (tS X.K (wF cl) P ev)) (hr : ClT X cl n P r l) :
      ClT X cl n P (.ExceptHandler (some (.Name x np)) none (b₀ :: suite) pos' :: r) ((k, none, ev) :: l)
  | named {x nm : Str} {i k : Nat} {ev : EvS} {b₀ : Stmt} {suite : List Stmt} {np pos' : Pos} {r : List ExceptHandler} {l : Hdl} (hk : k < n) (hc : Names X x (.ref (cl k))) (hi : X.N[i]? = some nm) (hl : X.env.kindOf nm = some .local) (hs : ∀ (a : Addr) (pn : List (Addr × Obj)), PSs (X.suite a pn) (b₀ :: suite) (tS X.K (wF cl) P ev)) (hr : ClT X cl n P r l) :
      ClT X cl n P (.ExceptHandler (some (.Name x np)) (some nm) (b₀ :: suite) pos' :: r) ((k, some i, ev) :: l)
def hdT (K : PySem.W.Frag) (cl : Nat → Addr) (P : List Nat) : Hdl → List (Value × Option Nat × TS)
  | [] => []
  | (k, io, ev) :: r => (.ref (cl k), io, tS K (wF cl) P ev) :: hdT K cl P r
theorem ClT.cls {X : Cx} {cl : Nat → Addr} {n : Nat} {P : List Nat} : ∀ {hs : List ExceptHandler} {l : Hdl}, ClT X cl n P hs l → Cls X hs (hdT X.K cl P l)
  | _, _, .nil => .nil
  | _, _, .anon _ hc hs hr => .anon hc hs hr.cls
  | _, _, .named _ hc hi hl hs hr => .named hc hi hl hs hr.cls
theorem ClT.lt {X : Cx} {cl : Nat → Addr} {n : Nat} {P : List Nat} : ∀ {hs : List ExceptHandler} {l : Hdl}, ClT X cl n P hs l → ∀ q ∈ l, q.1 < n
  | _, _, .nil => fun q h => by cases h
  | _, _, .anon hk _ _ hr => fun q h => by
    rcases List.mem_cons.mp h with e | h
    · rw [e]; exact hk
    · exact hr.lt q h
  | _, _, .named hk _ _ _ _ hr => fun q h => by
    rcases List.mem_cons.mp h with e | h
    · rw [e]; exact hk
    · exact hr.lt q h
section
variable {K : PySem.W.Frag} {Xs : List Addr} {P : List Nat} {B : Hp} {st : List Sl} {σ : L2.St} {H : Hp}
/-- a slot is forgotten, and its name goes -/
theorem relS_unset {i : Nat} (r : RelS K Xs P B st σ H) (hi : i ∉ P) : PostS K Xs P B st σ H (st.set i .un) (σ.set i none) H := by
  have sub := hid_sub (Xs := Xs) (ownd_set_sub (s' := .un) (fun _ e => by cases e) (st := st) (σ := σ) (i := i) (v := none))
  have ex : Ex (vis Xs st σ H) (vis Xs (st.set i .un) (σ.set i none) H) := msk_sub fun a ha => sub.subset ha
  have at_ : ∀ {j : Nat} {s : Sl}, s ≠ .un → (st.set i .un)[j]? = some s → i ≠ j ∧ st[j]? = some s := fun {j s} hs hj => by
    by_cases e : i = j
    · subst e
      have hlt : i < st.length := by
        have := (List.getElem?_eq_some_iff.mp hj).1
        rw [List.length_set] at this
        exact this
      rw [List.getElem?_set_self hlt] at hj
      cases hj
      exact absurd rfl hs
    · rw [List.getElem?_set_ne e] at hj
      exact ⟨e, hj⟩
  refine ⟨⟨⟨by rw [List.length_set, List.length_set]; exact r.rel.len, r.rel.nd.sublist sub, fun j d hj => ?_, fun j ds hj => ?_, r.rel.xs⟩, fun j ds p hp hj hq => ?_, r.dom⟩, ex, fun _ _ => rfl, fun _ h => h, fun j hj => List.getElem?_set_ne fun e => hi (by rw [e]; exact hj)⟩
  · obtain ⟨e, hj⟩ := at_ (by simp) hj
    obtain ⟨u, q1, q2⟩ := r.rel.pu j d hj
    exact ⟨u, by rw [List.getElem?_set_ne e]; exact q1, dp_mono ex q2⟩
  · obtain ⟨e, hj⟩ := at_ (by simp) hj
    obtain ⟨p, vs, q1, q2, q3⟩ := r.rel.ow j ds hj
    exact ⟨p, vs, by rw [List.getElem?_set_ne e]; exact q1, q2, dpAll_mono ex q3⟩
  · obtain ⟨e, hj⟩ := at_ (by simp) hj
    rw [List.getElem?_set_ne e] at hq
    exact r.own j ds p hp hj hq
theorem RdS.noEx {w w' : Wi} {Dn Dn' : Ends} {o : SO} (h : RdS K w Xs P B st σ H Dn (TX.noEx o)) (h1 : ∀ st' σ' H', o = .nx st' → PostS K Xs P B st σ H st' σ' H' → Dn.nx σ' H' → Dn'.nx σ' H') (h2 : ∀ v H', Dn.rt v H' → Dn'.rt v H') (h3 : ∀ σ' H', Dn.bk σ' H' → Dn'.bk σ' H') (h4 : ∀ σ' H', Dn.ct σ' H' → Dn'.ct σ' H') : RdS K w' Xs P B st σ H Dn' o := by
  cases o with
  | nx s => exact fun σ' H' p => h1 s σ' H' rfl p (h σ' H' p)
  | rt r s => exact fun v σ' H' p q => h2 _ _ (h v σ' H' p q)
  | bk s => exact fun σ' H' p => h3 _ _ (h σ' H' p)
  | ct s => exact fun σ' H' p => h4 _ _ (h σ' H' p)
  | ex c d s => exact h.elim
  | no => exact h
theorem hand_of {w : Wi} {mt : Nat → Nat → Bool} {n c : Nat} {d : D} {st' : List Sl} {σ' : L2.St} {H' : Hp} {dx : Addr} {v : V} {Dn : Ends} (E : ErrK K w.cl mt n) (hc : c < n) (p : PostS K Xs P B st σ H st' σ' H') (hd : Dq K (vis Xs st' σ' H') v d) (hdx : vis Xs st' σ' H' dx = some (.xd [(fV, v)])) :
    ∀ {l : Hdl}, (∀ q ∈ l, q.1 < n) → RdS K w Xs P B st σ H Dn (sHand P w.cl mt c d st' l) → wEx K w.W Dn (hdT K w.cl P l) (.ref (w.cl c)) (some dx) σ' H'
  | [], _, h => h dx v σ' H' p hdx hd
  | (k, none, ev) :: r, hl, h => by
    have hk := hl _ List.mem_cons_self
    refine ⟨mt c k, E.ex c k hc hk, fun hb a ha => ?_, fun hb => ?_⟩
    · have h' : RdS K w Xs P B st σ H Dn (noEx (ev st')) := by
        unfold sHand at h
        rw [if_pos hb] at h
        exact h
      have q := PostS.of p.rel (rel_new (o := xo a (.ref (w.cl c)) (some dx)) p.rel.rel ha)
      exact ⟨Xs, B, st', (p.trans q).rel, (RdS.on (p.trans q) h').noEx (fun _ _ _ _ _ z => z) (fun _ _ z => z) (fun _ _ z => z) fun _ _ z => z⟩
    · have h' : RdS K w Xs P B st σ H Dn (sHand P w.cl mt c d st' r) := by
        unfold sHand at h
        rw [if_neg (by rw [hb]; decide)] at h
        exact h
      exact hand_of E hc p hd hdx (fun q hq => hl q (List.mem_cons_of_mem _ hq)) h'
  | (k, some i, ev) :: r, hl, h => by
    have hk := hl _ List.mem_cons_self
    refine ⟨mt c k, E.ex c k hc hk, fun hb a ha => ?_, fun hb => ?_⟩
    · have h' : RdS K w Xs P B st σ H Dn (if i ∈ P ∨ st'.length ≤ i then .no else match noEx (ev (st'.set i (.pu (.exc (w.cl c) d)))) with
          | .nx s => .nx (s.set i .un)
          | .bk s => .bk (s.set i .un)
          | .ct s => .ct (s.set i .un)
          | o => o) := by
        unfold sHand at h
        rw [if_pos hb] at h
        exact h
      split at h'
      · exact h'.elim
      · next hi =>
        have hi' : i ∉ P := fun z => hi (.inl z)
        have q1 := PostS.of p.rel (rel_new (o := xo a (.ref (w.cl c)) (some dx)) p.rel.rel ha)
        have na := rel_hid p.rel.rel ha
        have dq : Dq K (vis Xs st' σ' (upd H' a (xo a (.ref (w.cl c)) (some dx)))) (.ref a) (.exc (w.cl c) d) :=
          .exc (E.good c hc) (by show msk _ _ a = _; rw [msk_out na, upd_same]) (q1.ex _ _ hdx) (dp_mono q1.ex hd)
        have q2 := relS_set (i := i) q1.rel hi' (.inr ⟨_, rfl, dq⟩)
        have q := (p.trans q1).trans q2
        refine ⟨Xs, B, _, q.rel, ?_⟩
        have un : ∀ {s : List Sl} {σ2 : L2.St} {H2 : Hp}, PostS K Xs P B (st'.set i (.pu (.exc (w.cl c) d))) (σ'.set i (some (.ref a))) (upd H' a (xo a (.ref (w.cl c)) (some dx))) s σ2 H2 → PostS K Xs P B st σ H (s.set i .un) (σ2.set i none) H2 := fun z => (q.trans z).trans (relS_unset z.rel hi')
        cases eo : ev (st'.set i (.pu (.exc (w.cl c) d))) with
        | nx s => rw [eo] at h'; exact fun σ2 H2 z => h' _ _ (un z)
        | bk s => rw [eo] at h'; exact fun σ2 H2 z => h' _ _ (un z)
        | ct s => rw [eo] at h'; exact fun σ2 H2 z => h' _ _ (un z)
        | rt z s => rw [eo] at h'; exact fun v2 σ2 H2 z => h' v2 σ2 H2 (q.trans z)
        | ex c2 d2 s => rw [eo] at h'; exact h'.elim
        | no => rw [eo] at h'; exact h'.elim
    · have h' : RdS K w Xs P B st σ H Dn (sHand P w.cl mt c d st' r) := by
        unfold sHand at h
        rw [if_neg (by rw [hb]; decide)] at h
        exact h
      exact hand_of E hc p hd hdx (fun q hq => hl q (List.mem_cons_of_mem _ hq)) h'
end
theorem xs_try {X : Cx} {w : Wi} {P : List Nat} {mt : Nat → Nat → Bool} {n : Nat} {body : List Stmt} {h₀ : ExceptHandler} {hds : List ExceptHandler} {l : Hdl} {eb : EvS} {pos : Pos} (E : ErrK X.K w.cl mt n) (tk : Takes X w.W) (hN : X.N.Nodup)
    (hb : ∀ (W : WX) (pn : List (Addr × Obj)) (xe : Value → Shared → Prop), Takes (X.tr pn xe) W → PassesOwn (model X.prog X.w) X.A X.env xe → PSs (X.tr pn xe) body (tS X.K ⟨W, w.cl⟩ P eb)) (hh : ClT X w.cl n P (h₀ :: hds) l)
    (hs : X.stack = X.env :: X.outer := by rfl) (hf : X.env.frame = some X.env.locals := by rfl) (hex : X.ex = [] := by rfl) : PS X (.Try body (h₀ :: hds) [] [] pos) (tS X.K w P (sTry P w.cl mt n eb l)) :=
  PS.of (ps_tryEx (tb := fun W => tS X.K ⟨W, w.cl⟩ P eb) hs hf hex hN tk hb hh.cls) fun Dn σ H h => by
    obtain ⟨Xs, B, st, r, h⟩ := h
    refine ⟨Xs, B, st, r, ?_⟩
    unfold sTry at h
    cases e : eb st with
    | nx s => rw [e] at h; exact h
    | rt z s => rw [e] at h; exact h
    | bk s => rw [e] at h; exact h
    | ct s => rw [e] at h; exact h
    | no => rw [e] at h; exact h
    | ex c d s =>
      rw [e] at h
      dsimp only at h
      split at h
      · next hc =>
        intro dx v σ' H' p hx hd
        exact hand_of E hc p hd hx hh.lt h
      · exact h.elim
end TX

end

section
set_option Elab.async false
set_option linter.all false
set_option maxRecDepth 100000
set_option maxHeartbeats 2000000
namespace TX
open PySem L2 Evl PyProof.Rows

/-! ### comprehensions: their names' slots are forgotten, and stand again behind -/
def wipeS (st : List Sl) : List Nat → List Sl
  | [] => st
  | v :: vs => (wipeS st vs).set v .un
/-- behind it: the names' slots of before -/
def backS (st0 st : List Sl) : List Nat → List Sl
  | [] => st
  | v :: vs => (backS st0 st vs).set v (st0.getD v .un)
theorem wipe_get {vs : List Nat} : ∀ {σ : L2.St} {i : Nat}, i ∉ vs → (wipe σ vs)[i]? = σ[i]? := fun {σ i} h => by
  induction vs with
  | nil => rfl
  | cons v vs ih =>
    have h1 : i ≠ v := fun e => h (by rw [e]; exact List.mem_cons_self)
    show ((wipe σ vs).set v none)[i]? = _
    rw [List.getElem?_set_ne (Ne.symm h1)]
    exact ih fun z => h (List.mem_cons_of_mem _ z)
theorem wipe_in {vs : List Nat} : ∀ {σ : L2.St} {i : Nat}, i ∈ vs → i < σ.length → (wipe σ vs)[i]? = some none := fun {σ i} h hl => by
  induction vs with
  | nil => cases h
  | cons v vs ih =>
    show ((wipe σ vs).set v none)[i]? = _
    by_cases e : v = i
    · subst e
      rw [List.getElem?_set_self (by rw [wipe_length]; exact hl)]
    · rw [List.getElem?_set_ne e]
      exact ih (by
        rcases List.mem_cons.mp h with h | h
        · exact absurd h.symm e
        · exact h)
theorem wipeS_len {vs : List Nat} : ∀ {st : List Sl}, (wipeS st vs).length = st.length := fun {st} => by
  induction vs with
  | nil => rfl
  | cons v vs ih => show ((wipeS st vs).set v .un).length = _; rw [List.length_set]; exact ih
theorem wipeS_get {vs : List Nat} : ∀ {st : List Sl} {i : Nat}, i ∉ vs → (wipeS st vs)[i]? = st[i]? := fun {st i} h => by
  induction vs with
  | nil => rfl
  | cons v vs ih =>
    have h1 : i ≠ v := fun e => h (by rw [e]; exact List.mem_cons_self)
    show ((wipeS st vs).set v .un)[i]? = _
    rw [List.getElem?_set_ne (Ne.symm h1)]
    exact ih fun z => h (List.mem_cons_of_mem _ z)
theorem wipeS_in {vs : List Nat} : ∀ {st : List Sl} {i : Nat}, i ∈ vs → i < st.length → (wipeS st vs)[i]? = some .un := fun {st i} h hl => by
  induction vs with
  | nil => cases h
  | cons v vs ih =>
    show ((wipeS st vs).set v .un)[i]? = _
    by_cases e : v = i
    · subst e
      rw [List.getElem?_set_self (by rw [wipeS_len]; exact hl)]
    · rw [List.getElem?_set_ne e]
      exact ih (by
        rcases List.mem_cons.mp h with h | h
        · exact absurd h.symm e
        · exact h)
theorem backS_len {vs : List Nat} : ∀ {st0 st : List Sl}, (backS st0 st vs).length = st.length := fun {st0 st} => by
  induction vs with
  | nil => rfl
  | cons v vs ih => show ((backS st0 st vs).set v _).length = _; rw [List.length_set]; exact ih
theorem backS_get {vs : List Nat} : ∀ {st0 st : List Sl} {i : Nat}, i ∉ vs → (backS st0 st vs)[i]? = st[i]? := fun {st0 st i} h => by
  induction vs with
  | nil => rfl
  | cons v vs ih =>
    have h1 : i ≠ v := fun e => h (by rw [e]; exact List.mem_cons_self)
    show ((backS st0 st vs).set v _)[i]? = _
    rw [List.getElem?_set_ne (Ne.symm h1)]
    exact ih fun z => h (List.mem_cons_of_mem _ z)
theorem backS_in {vs : List Nat} : ∀ {st0 st : List Sl} {i : Nat}, i ∈ vs → i < st.length → st0.length = st.length → (backS st0 st vs)[i]? = st0[i]? := fun {st0 st i} h hl e0 => by
  induction vs with
  | nil => cases h
  | cons v vs ih =>
    show ((backS st0 st vs).set v (st0.getD v .un))[i]? = _
    by_cases e : v = i
    · subst e
      rw [List.getElem?_set_self (by rw [backS_len]; exact hl), List.getD_eq_getElem?_getD]
      rw [List.getElem?_eq_getElem (by omega)]
      rfl
    · rw [List.getElem?_set_ne e]
      exact ih (by
        rcases List.mem_cons.mp h with h | h
        · exact absurd h.symm e
        · exact h)
theorem st_ext {α : Type} {a b : List α} (h : ∀ i : Nat, a[i]? = b[i]?) : a = b := List.ext_getElem? h
/-- a slot of a name of its own takes a value: nothing to the others -/
theorem wipe_set {vs : List Nat} {σ : L2.St} {i : Nat} {x : Option V} (h : i ∈ vs) : wipe (σ.set i x) vs = wipe σ vs := st_ext fun j => by
  by_cases hj : j ∈ vs
  · by_cases hl : j < σ.length
    · rw [wipe_in hj hl, wipe_in hj (by rw [List.length_set]; exact hl)]
    · rw [List.getElem?_eq_none (by rw [wipe_length, List.length_set]; omega), List.getElem?_eq_none (by rw [wipe_length]; omega)]
  · rw [wipe_get hj, wipe_get hj, List.getElem?_set_ne (fun e => hj (by rw [← e]; exact h))]
theorem wipe_wipe {vs : List Nat} {σ : L2.St} : wipe (wipe σ vs) vs = wipe σ vs := st_ext fun j => by
  by_cases hj : j ∈ vs
  · by_cases hl : j < σ.length
    · rw [wipe_in hj hl, wipe_in hj (by rw [wipe_length]; exact hl)]
    · rw [List.getElem?_eq_none (by rw [wipe_length, wipe_length]; omega), List.getElem?_eq_none (by rw [wipe_length]; omega)]
  · rw [wipe_get hj]
/-- no slot of these owns a list -/
def noOwn (st : List Sl) (vs : List Nat) : Bool := vs.all fun i => !isOw st[i]?
theorem noOwn_of {st : List Sl} {vs : List Nat} (h : noOwn st vs = true) : ∀ i ∈ vs, ∀ ds, st[i]? ≠ some (.ow ds) := fun i hi ds e => by
  have := (List.all_eq_true.mp h) i hi
  rw [e] at this
  cases this
/-- ownership hangs on the owning slots alone -/
theorem ownd_agree : ∀ {st s : List Sl} {σ τ : L2.St}, s.length = st.length → σ.length = τ.length → (∀ (i : Nat) (ds : List D), st[i]? = some (.ow ds) → (∃ es, s[i]? = some (.ow es)) ∧ σ[i]? = τ[i]?) → (∀ (i : Nat) (ds : List D), s[i]? = some (.ow ds) → ∃ es, st[i]? = some (.ow es)) → ownd st σ = ownd s τ
  | [], [], σ, τ, _, _, _, _ => by unfold ownd; rfl
  | [], _ :: _, _, _, h, _, _, _ => by simp at h
  | _ :: _, [], _, _, h, _, _, _ => by simp at h
  | a :: st, c :: s, [], [], _, _, _, _ => by rw [ownd_nil_r, ownd_nil_r]
  | a :: st, c :: s, [], _ :: _, _, h, _, _ => by simp at h
  | a :: st, c :: s, _ :: _, [], _, h, _, _ => by simp at h
  | a :: st, c :: s, x :: σ, y :: τ, h1, h2, h3, h4 => by
    have ih := ownd_agree (st := st) (s := s) (σ := σ) (τ := τ) (by simpa using h1) (by simpa using h2) (fun i ds e => by simpa using h3 (i + 1) ds (by simpa using e)) (fun i ds e => by simpa using h4 (i + 1) ds (by simpa using e))
    cases a with
    | ow ds =>
      obtain ⟨⟨es, e1⟩, e2⟩ := h3 0 ds rfl
      simp at e1 e2
      subst e1; subst e2
      show ownd (.ow ds :: st) (x :: σ) = ownd (.ow es :: s) (x :: τ)
      cases x with
      | none => exact ih
      | some v =>
        cases v with
        | ref p => exact congrArg (p :: ·) ih
        | _ => exact ih
    | un =>
      cases c with
      | ow es => obtain ⟨_, e⟩ := h4 0 es rfl; simp at e
      | un => exact ih
      | pu _ => exact ih
    | pu _ =>
      cases c with
      | ow es => obtain ⟨_, e⟩ := h4 0 es rfl; simp at e
      | un => exact ih
      | pu _ => exact ih
section
variable {K : PySem.W.Frag} {Xs : List Addr} {st : List Sl} {σ : L2.St} {H : Hp} {vs : List Nat}
theorem ownd_wipe {st : List Sl} {σ τ : L2.St} {vs : List Nat} (hl : st.length = σ.length) (hlt : σ.length = τ.length) (hn : ∀ i ∈ vs, ∀ ds, st[i]? ≠ some (.ow ds)) (ht : ∀ i, i ∉ vs → σ[i]? = τ[i]?) : ownd st σ = ownd (wipeS st vs) τ :=
  ownd_agree wipeS_len hlt (fun i ds e => by
    have hi : i ∉ vs := fun z => hn i z ds e
    exact ⟨⟨ds, by rw [wipeS_get hi]; exact e⟩, ht i hi⟩) (fun i ds e => by
    by_cases hi : i ∈ vs
    · have hlt : i < st.length := by have := (List.getElem?_eq_some_iff.mp e).1; rw [wipeS_len] at this; exact this
      rw [wipeS_in hi hlt] at e; cases e
    · rw [wipeS_get hi] at e; exact ⟨ds, e⟩)
/-- the block's slots: σ' agrees with σ but for the names -/
theorem rel_wipe {τ : L2.St} (r : Rel K Xs st σ H) (hn : ∀ i ∈ vs, ∀ ds, st[i]? ≠ some (.ow ds)) (hl : σ.length = τ.length) (ht : ∀ i, i ∉ vs → σ[i]? = τ[i]?) : Rel K Xs (wipeS st vs) τ H ∧ vis Xs (wipeS st vs) τ H = vis Xs st σ H := by
  have eo := ownd_wipe r.len hl hn ht
  have ev : vis Xs (wipeS st vs) τ H = vis Xs st σ H := by show msk (ownd _ _ ++ Xs) H = _; rw [← eo]
  refine ⟨⟨by rw [wipeS_len, r.len, hl], by show (ownd _ _ ++ Xs).Nodup; rw [← eo]; exact r.nd, fun i d hi => ?_, fun i ds hi => ?_, r.xs⟩, ev⟩
  · by_cases hm : i ∈ vs
    · have hlt : i < st.length := by have := (List.getElem?_eq_some_iff.mp hi).1; rw [wipeS_len] at this; exact this
      rw [wipeS_in hm hlt] at hi; cases hi
    · rw [wipeS_get hm] at hi
      obtain ⟨v, q1, q2⟩ := r.pu i d hi
      exact ⟨v, by rw [← ht i hm]; exact q1, by rw [ev]; exact q2⟩
  · by_cases hm : i ∈ vs
    · have hlt : i < st.length := by have := (List.getElem?_eq_some_iff.mp hi).1; rw [wipeS_len] at this; exact this
      rw [wipeS_in hm hlt] at hi; cases hi
    · rw [wipeS_get hm] at hi
      obtain ⟨p, us, q1, q2, q3⟩ := r.ow i ds hi
      exact ⟨p, us, by rw [← ht i hm]; exact q1, q2, by rw [ev]; exact q3⟩
/-- behind the block -/
theorem rel_unwipe {st1 : List Sl} {H1 : Hp} (r0 : Rel K Xs st σ H) (hn : ∀ i ∈ vs, ∀ ds, st[i]? ≠ some (.ow ds)) (r1 : Rel K Xs (wipeS st1 vs) (wipe σ vs) H1) (hl : st1.length = st.length) (ex : Ex (vis Xs st σ H) (vis Xs (wipeS st1 vs) (wipe σ vs) H1)) :
    Rel K Xs (backS st st1 vs) σ H1 ∧ vis Xs (backS st st1 vs) σ H1 = vis Xs (wipeS st1 vs) (wipe σ vs) H1 := by
  have eo : ownd (wipeS st1 vs) (wipe σ vs) = ownd (backS st st1 vs) σ := ownd_agree (by rw [backS_len, wipeS_len]) (wipe_length σ vs) (fun i ds e => by
    by_cases hm : i ∈ vs
    · have hlt : i < st1.length := by have := (List.getElem?_eq_some_iff.mp e).1; rw [wipeS_len] at this; exact this
      rw [wipeS_in hm hlt] at e; cases e
    · rw [wipeS_get hm] at e
      exact ⟨⟨ds, by rw [backS_get hm]; exact e⟩, wipe_get hm⟩) (fun i ds e => by
    by_cases hm : i ∈ vs
    · have hlt : i < st1.length := by have := (List.getElem?_eq_some_iff.mp e).1; rw [backS_len] at this; exact this
      rw [backS_in hm hlt hl.symm] at e
      exact absurd e (hn i hm ds)
    · rw [backS_get hm] at e
      exact ⟨ds, by rw [wipeS_get hm]; exact e⟩)
  have ev : vis Xs (backS st st1 vs) σ H1 = vis Xs (wipeS st1 vs) (wipe σ vs) H1 := by show msk (ownd _ _ ++ Xs) H1 = _; rw [← eo]
  refine ⟨⟨by rw [backS_len, hl]; exact r0.len, by show (ownd _ _ ++ Xs).Nodup; rw [← eo]; exact r1.nd, fun i d hi => ?_, fun i ds hi => ?_, r1.xs⟩, ev⟩
  · rw [ev]
    by_cases hm : i ∈ vs
    · have hlt : i < st1.length := by have := (List.getElem?_eq_some_iff.mp hi).1; rw [backS_len] at this; exact this
      rw [backS_in hm hlt hl.symm] at hi
      obtain ⟨v, q1, q2⟩ := r0.pu i d hi
      exact ⟨v, q1, dp_mono ex q2⟩
    · rw [backS_get hm] at hi
      obtain ⟨v, q1, q2⟩ := r1.pu i d (by rw [wipeS_get hm]; exact hi)
      exact ⟨v, by rw [wipe_get hm] at q1; exact q1, q2⟩
  · rw [ev]
    by_cases hm : i ∈ vs
    · have hlt : i < st1.length := by have := (List.getElem?_eq_some_iff.mp hi).1; rw [backS_len] at this; exact this
      rw [backS_in hm hlt hl.symm] at hi
      exact absurd hi (hn i hm ds)
    · rw [backS_get hm] at hi
      obtain ⟨p, us, q1, q2, q3⟩ := r1.ow i ds (by rw [wipeS_get hm]; exact hi)
      exact ⟨p, us, by rw [wipe_get hm] at q1; exact q1, q2, q3⟩
end
/-- the turns: vs the names' slots -/
def cLoop (vs : List Nat) (put : D → List Sl → SO) (t : EvT) (e : EvE) : List D → List Sl → O (List D)
  | [], st => .ok [] st
  | d :: r, st => match put d (wipeS st vs) with
    | .nx st1 => match t st1 with
      | .ok true st2 => match e st2 with
        | .ok z st3 => if noOwn st3 vs = true then (match cLoop vs put t e r st3 with
          | .ok zs st4 => .ok (z.1 :: zs) st4
          | _ => .no) else .no
        | _ => .no
      | .ok false st2 => if noOwn st2 vs = true then cLoop vs put t e r st2 else .no
      | _ => .no
    | _ => .no
def eLc (vs : List Nat) (it : EvI) (put : D → List Sl → SO) (t : EvT) (e : EvE) : EvE := fun st => (it st).bind fun ds st1 => if noOwn st1 vs = true ∧ ds.length ≤ 100000 then (match cLoop vs put t e ds st1 with
  | .ok zs st2 => if st2.length = st1.length then .ok (.lst zs, true) (backS st1 st2 vs) else .no
  | _ => .no) else .no
def tTrue : EvT := fun st => .ok true st
section
variable {X : Cx} {w : Wi} {vs : List Nat}
theorem cLoop_len {K : PySem.W.Frag} {put : D → List Sl → SO} {t : EvT} {e : EvE} : ∀ {ds zs : List D} {st st' : List Sl}, cLoop vs put t e ds st = .ok zs st' → zs.length ≤ ds.length
  | [], zs, st, st', h => by
    have h' : (O.ok [] st : O (List D)) = .ok zs st' := h
    cases h'
    exact Nat.le_refl _
  | d :: r, zs, st, st', h => by
    unfold cLoop at h
    split at h
    · split at h
      · split at h
        · split at h
          · split at h
            · next e2 =>
              cases h
              have := cLoop_len (K := K) e2
              rw [List.length_cons, List.length_cons]
              omega
            · cases h
          · cases h
        · cases h
      · split at h
        · have := cLoop_len (K := K) h
          rw [List.length_cons]
          omega
        · cases h
      · cases h
    · cases h
/-- a target that writes these names' slots alone -/
def GW (vs : List Nat) (g : TG) : Prop := ∀ (x : V) (σ : L2.St) (H : Hp) (R : L2.St → Hp → Prop), wipe σ vs = σ → (g x σ H fun σ2 H2 => wipe σ2 vs = σ → R σ2 H2) → g x σ H fun σ2 H2 => wipe σ2 vs = σ ∧ R σ2 H2
theorem gw_name {i : Nat} (h : i ∈ vs) : GW vs (gName i) := fun x σ H R e q => by
  have e2 : wipe (σ.set i (some x)) vs = σ := by rw [wipe_set h]; exact e
  exact ⟨e2, q e2⟩
theorem gw_names : ∀ {is : List Nat}, (∀ i ∈ is, i ∈ vs) → ∀ (xs : List V) (σ0 σ : L2.St) (H : Hp) (R : L2.St → Hp → Prop), wipe σ vs = σ0 → (gNames is xs σ H fun σ2 H2 => wipe σ2 vs = σ0 → R σ2 H2) → gNames is xs σ H fun σ2 H2 => wipe σ2 vs = σ0 ∧ R σ2 H2
  | [], _, xs, σ0, σ, H, R, e, q => ⟨q.1, e, q.2 e⟩
  | i :: is, hi, xs, σ0, σ, H, R, e, q => by
    obtain ⟨v, r, h1, h2⟩ := q
    exact ⟨v, r, h1, gw_names (fun j hj => hi j (List.mem_cons_of_mem _ hj)) r σ0 (σ.set i (some v)) H R (by rw [wipe_set (hi i List.mem_cons_self)]; exact e) h2⟩
theorem gw_tup {K : PySem.W.Frag} {n : Nat} {is : List Nat} (h : ∀ i ∈ is, i ∈ vs) : GW vs (gTup K n (gNames is)) := fun x σ H R e q => by
  obtain ⟨a, xs, h1, h2, h3, h4⟩ := q
  exact ⟨a, xs, h1, h2, h3, gw_names h xs σ σ H R e h4⟩
/-- it comes to an end, or not at all; it makes no owner -/
def PutO (put : D → List Sl → SO) : Prop := ∀ d st, put d st ≠ .no → ∃ s, put d st = .nx s ∧ OwLess st s
theorem owLess_set {st : List Sl} {i : Nat} {d : D} : OwLess st (st.set i (.pu d)) := fun j es hj => by
  by_cases e : i = j
  · subst e
    by_cases hl : i < st.length
    · rw [List.getElem?_set_self hl] at hj; cases hj
    · rw [List.getElem?_eq_none (by rw [List.length_set]; omega)] at hj; cases hj
  · rw [List.getElem?_set_ne e] at hj; exact ⟨es, hj⟩
theorem putO_name {P : List Nat} {i : Nat} : PutO (putN P i) := fun d st h => by
  unfold putN at h ⊢
  split at h
  · exact absurd rfl h
  · next hc => rw [if_neg hc]; exact ⟨_, rfl, owLess_set⟩
theorem putO_all {P : List Nat} : ∀ {is : List Nat} {ds : List D} {st : List Sl}, putAll P is ds st ≠ .no → ∃ s, putAll P is ds st = .nx s ∧ OwLess st s
  | [], [], st, h => ⟨st, rfl, OwLess.refl st⟩
  | [], _ :: _, st, h => absurd rfl h
  | _ :: _, [], st, h => absurd rfl h
  | i :: is, d :: ds, st, h => by
    unfold putAll at h ⊢
    split at h
    · exact absurd rfl h
    · next hc =>
      rw [if_neg hc]
      obtain ⟨s, e1, e2⟩ := putO_all h
      exact ⟨s, e1, owLess_set.trans e2⟩
theorem putO_tup {P : List Nat} {is : List Nat} : PutO (putT P is) := fun d st h => by
  unfold putT at h ⊢
  split at h
  · exact putO_all h
  · exact absurd rfl h
theorem rel_updH {K : PySem.W.Frag} {Xs : List Addr} {st : List Sl} {σ : L2.St} {H : Hp} {p : Addr} {o : HO} (r : Rel K (p :: Xs) st σ H) : Rel K (p :: Xs) st σ (upd H p o) ∧ vis (p :: Xs) st σ (upd H p o) = vis (p :: Xs) st σ H := by
  have hm : p ∈ hid (p :: Xs) st σ := List.mem_append_right _ List.mem_cons_self
  have ev : vis (p :: Xs) st σ (upd H p o) = vis (p :: Xs) st σ H := msk_upd hm
  have hn : p ∉ ownd st σ := fun h => by
    have := r.nd
    rw [show hid (p :: Xs) st σ = ownd st σ ++ p :: Xs from rfl, List.nodup_append] at this
    exact this.2.2 p h p List.mem_cons_self rfl
  refine ⟨⟨r.len, r.nd, fun i d hi => by rw [ev]; exact r.pu i d hi, fun i ds hi => ?_, fun x hx => ?_⟩, ev⟩
  · obtain ⟨q, vs, q1, q2, q3⟩ := r.ow i ds hi
    exact ⟨q, vs, q1, by rw [upd_ne fun z => hn (by rw [← z]; exact ownd_mem hi q1)]; exact q2, by rw [ev]; exact q3⟩
  · by_cases e : x = p
    · rw [e, upd_same]; simp
    · rw [upd_ne e]; exact r.xs x hx
/-- the reading of a comprehension -/
theorem lc_of {K : PySem.W.Frag} {it : EvI} {put : D → List Sl → SO} {g : TG} {t : EvT} {e : EvE} {tt : TT} {σ : L2.St} {H : Hp} {Q : VK} (hg : TgS K [] g put) (hp : PutO put) (hw : GW vs g) (ht : ∀ σ H R, tT K (wF w.cl) t σ H R → tt σ H R) (h : tE K w (eLc vs it put t e) σ H Q) :
    tLc (tI K w it) g tt (tE K (wF w.cl) e) vs σ H Q := by
  obtain ⟨Xs, st, rel, h⟩ := h
  unfold eLc at h
  show tI K w it σ H _
  refine ⟨Xs, st, rel, (rdo_bind h).mono (fun ds st1 h1 J H1 C p1 S c => ?_) fun _ _ _ x => x⟩
  split at h1
  · next hc =>
    intro Dl hD
    have hn := noOwn_of hc.1
    cases eL : cLoop vs put t e ds st1 with
    | ex _ _ _ => rw [eL] at h1; exact h1.elim
    | no => rw [eL] at h1; exact h1.elim
    | ok zs stE =>
      rw [eL] at h1
      dsimp only at h1
      split at h1
      · next hlE =>
        have hDh := rel_hid p1.rel hD
        -- the state at a turn: the list at Dl holds rs, what follows gives the rest
        refine ⟨fun i m H' => m = ds.length - i ∧ ∃ stc us rs zr, stc.length = st1.length ∧ noOwn stc vs = true ∧ Rel K (Dl :: Xs) (wipeS stc vs) (wipe σ vs) H' ∧ Ex (vis Xs st1 σ H1) (vis (Dl :: Xs) (wipeS stc vs) (wipe σ vs) H') ∧ (∀ x ∈ Xs, H' x = H1 x) ∧ (∀ a, H' a = none → H1 a = none) ∧ OwLess st1 (wipeS stc vs) ∧
          H' Dl = some (.lst us) ∧ DqAll K (vis (Dl :: Xs) (wipeS stc vs) (wipe σ vs) H') us rs ∧ rs.length ≤ i ∧ cLoop vs put t e (ds.drop i) stc = .ok zr stE ∧ rs ++ zr = zs, ⟨ds.length, ?_⟩, ?_⟩
        · -- the start
          obtain ⟨r2, e2⟩ := rel_wipe (vs := vs) (τ := wipe σ vs) p1.rel hn (wipe_length σ vs).symm (fun i hi => (wipe_get hi).symm)
          have vn := val_newL (vs := []) (ds := []) r2 hD .nil
          obtain ⟨q, us, es, k1, k2, k3, k4, k5, k6⟩ := vn.fr rfl
          cases k1
          have pn := rel_new (o := .lst []) r2 hD
          refine ⟨rfl, st1, [], [], zs, rfl, hc.1, k6, ?_, fun x hx => upd_ne fun z => p1.rel.xs x hx (by rw [z]; exact hD), fun a ha => ?_, fun i es hi => ?_, upd_same, .nil, Nat.le_refl _, by rw [List.drop_zero]; exact eL, rfl⟩
          · rw [← e2]
            exact ex_hide (L := [Dl]) pn.ex fun x hx => by rw [List.mem_singleton.mp hx]; exact hD
          · exact pn.dom a ha
          · by_cases hm : i ∈ vs
            · have hlt : i < st1.length := by have := (List.getElem?_eq_some_iff.mp hi).1; rw [wipeS_len] at this; exact this
              rw [wipeS_in hm hlt] at hi; cases hi
            · rw [wipeS_get hm] at hi; exact ⟨es, hi⟩
        · rintro i m H' ⟨hm, stc, us, rs, zr, hl, hno, r', ex', xs', dm', ol', hD', dq', hrs, eC, eR⟩
          by_cases hi : i < ds.length
          · right
            have cM : C (vis (Dl :: Xs) (wipeS stc vs) (wipe σ vs) H') := S.mono _ _ ex' c
            refine ⟨S.go i H' _ msk_ex cM hi, fun H2 => ds.length - (i + 1) = ds.length - (i + 1) ∧ ∃ stc us rs zr, stc.length = st1.length ∧ noOwn stc vs = true ∧ Rel K (Dl :: Xs) (wipeS stc vs) (wipe σ vs) H2 ∧ Ex (vis Xs st1 σ H1) (vis (Dl :: Xs) (wipeS stc vs) (wipe σ vs) H2) ∧ (∀ x ∈ Xs, H2 x = H1 x) ∧ (∀ a, H2 a = none → H1 a = none) ∧ OwLess st1 (wipeS stc vs) ∧
              H2 Dl = some (.lst us) ∧ DqAll K (vis (Dl :: Xs) (wipeS stc vs) (wipe σ vs) H2) us rs ∧ rs.length ≤ i + 1 ∧ cLoop vs put t e (ds.drop (i + 1)) stc = .ok zr stE ∧ rs ++ zr = zs, fun H2 q => ⟨_, by omega, q⟩, fun x H2 hy => ?_⟩
            have hd : ds[i]? = some ds[i] := List.getElem?_eq_getElem hi
            obtain ⟨q1, q2⟩ := S.yld (Dl :: Xs) (wipeS stc vs) (wipe σ vs) i H' x H2 ds[i] r' cM hd hy
            rw [List.drop_eq_getElem_cons hi] at eC
            unfold cLoop at eC
            have hput : put ds[i] (wipeS stc vs) ≠ .no := fun z => by rw [z] at eC; cases eC
            obtain ⟨s1, e1, o1⟩ := hp _ _ hput
            rw [e1] at eC
            dsimp only at eC
            have R0 : RelS K (Dl :: Xs) [] (fun _ => none) (wipeS stc vs) (wipe σ vs) H2 := ⟨q1.rel, fun _ _ _ _ _ _ => rfl, fun _ _ => rfl⟩
            have DlX : Dl ∈ Dl :: Xs := List.mem_cons_self
            -- what a turn leaves, in a state of the target's
            have step : ∀ {s3 : List Sl} {σ2 : L2.St} {H3 H4 : Hp}, PostS K (Dl :: Xs) [] (fun _ => none) (wipeS stc vs) (wipe σ vs) H2 s1 σ2 H3 → wipe σ2 vs = wipe σ vs → Post K (Dl :: Xs) s1 σ2 H3 s3 H4 → noOwn s3 vs = true →
                Rel K (Dl :: Xs) (wipeS s3 vs) (wipe σ vs) H4 ∧ vis (Dl :: Xs) (wipeS s3 vs) (wipe σ vs) H4 = vis (Dl :: Xs) s3 σ2 H4 ∧ Ex (vis (Dl :: Xs) (wipeS stc vs) (wipe σ vs) H') (vis (Dl :: Xs) (wipeS s3 vs) (wipe σ vs) H4) ∧ s3.length = st1.length ∧ OwLess st1 (wipeS s3 vs) ∧ (∀ x ∈ Xs, H4 x = H1 x) ∧ (∀ a, H4 a = none → H1 a = none) ∧ H4 Dl = some (.lst us) := fun {s3 σ2 H3 H4} a1 a2 a3 a4 => by
              have hl2 : σ2.length = (wipe σ vs).length := by rw [← a2, wipe_length]
              obtain ⟨b1, b2⟩ := rel_wipe (vs := vs) (τ := wipe σ vs) a3.rel (noOwn_of a4) hl2 (fun j hj => by rw [← a2, wipe_get hj])
              refine ⟨b1, b2, by rw [b2]; exact (q1.ex.trans a1.ex).trans a3.ex, ?_, fun j es hj => ?_, fun y hy => ?_, fun a ha => dm' a (q1.dom a (a1.dom a (a3.dom a ha))), ?_⟩
              · have := a3.rel.len
                rw [this, hl2, ← r'.len, wipeS_len, hl]
              · -- owned lists were owned
                by_cases hm2 : j ∈ vs
                · have hlt : j < s3.length := by have := (List.getElem?_eq_some_iff.mp hj).1; rw [wipeS_len] at this; exact this
                  rw [wipeS_in hm2 hlt] at hj; cases hj
                · rw [wipeS_get hm2] at hj
                  obtain ⟨es2, k2⟩ := a3.ol j es hj
                  obtain ⟨es3, k3⟩ := o1 j es2 k2
                  exact ol' j es3 k3
              · rw [a3.xs y (List.mem_cons_of_mem _ hy), a1.xs y (List.mem_cons_of_mem _ hy), q1.xs y (List.mem_cons_of_mem _ hy)]
                exact xs' y hy
              · rw [a3.xs Dl DlX, a1.xs Dl DlX, q1.xs Dl DlX]
                exact hD'
            have hwp : wipe (wipe σ vs) vs = wipe σ vs := wipe_wipe
            have hsz : us.length < sizeLine := by
              have h1 := dpAll_len dq'
              have h2 := hc.2
              unfold sizeLine
              omega
            refine hw x (wipe σ vs) H2 _ hwp (hg w (Dl :: Xs) (fun _ => none) (wipeS stc vs) (wipe σ vs) H2 ⟨fun σ2 H3 => wipe σ2 vs = wipe σ vs → _, fun _ _ => True, fun _ _ => True, fun _ _ => True⟩ x ds[i] R0 q2 ?_)
            rw [e1]
            intro σ2 H3 a1 a2
            refine ht σ2 H3 _ ⟨Dl :: Xs, s1, a1.rel.rel, ?_⟩
            cases et : t s1 with
            | ex _ _ _ => rw [et] at eC; cases eC
            | no => rw [et] at eC; cases eC
            | ok b s2 =>
              rw [et] at eC
              intro H4 p2
              cases b with
              | false =>
                rw [if_neg (by simp)]
                dsimp only at eC
                split at eC
                · next a4 =>
                  obtain ⟨b1, b2, b3, b4, b5, b6, b7, b8⟩ := step a1 a2 p2 a4
                  exact ⟨rfl, s2, us, rs, zr, b4, a4, b1, ex'.trans b3, b6, b7, b5, b8, dpAll_mono b3 dq', by omega, eC, eR⟩
                · cases eC
              | true =>
                rw [if_pos rfl]
                dsimp only at eC
                refine ⟨Dl :: Xs, s2, p2.rel, ?_⟩
                cases ee : e s2 with
                | ex _ _ _ => rw [ee] at eC; cases eC
                | no => rw [ee] at eC; cases eC
                | ok z s3 =>
                  rw [ee] at eC
                  dsimp only at eC
                  intro y H5 p3 v3
                  split at eC
                  · next a4 =>
                    split at eC
                    · next zs' st4 eL' =>
                      cases eC
                      obtain ⟨b1, b2, b3, b4, b5, b6, b7, b8⟩ := step a1 a2 (p2.trans p3) a4
                      obtain ⟨c1, c2⟩ := rel_updH (o := .lst (us ++ [y])) b1
                      refine ⟨us, b8, hsz, rfl, s3, us ++ [y], rs ++ [z.1], zs', b4, a4, c1, by rw [c2]; exact ex'.trans b3, fun q hq => ?_, fun a ha => ?_, b5, upd_same, by rw [c2]; exact dpAll_append (dpAll_mono b3 dq') (.cons (by rw [b2]; exact v3.dp) .nil), by rw [List.length_append]; simp; exact hrs, eL', by rw [List.append_assoc]; exact eR⟩
                      · rw [upd_ne fun z => p1.rel.xs q hq (by rw [z]; exact hD)]; exact b6 q hq
                      · by_cases e : a = Dl
                        · rw [e]; exact hD
                        · rw [upd_ne e] at ha; exact b7 a ha
                    · cases eC
                  · cases eC
          · left
            have ed : ds.drop i = [] := List.drop_eq_nil_of_le (by omega)
            rw [ed] at eC
            have eC' : (O.ok [] stc : O (List D)) = .ok zr stE := eC
            cases eC'
            rw [List.append_nil] at eR
            subst eR
            refine ⟨S.stop i H' _ msk_ex (S.mono _ _ ex' c) (by omega), ?_⟩
            obtain ⟨q, us0, es0, k1, k2, k3, k4, k5, k6⟩ := (val_newL (vs := []) (ds := []) p1.rel hD .nil).fr rfl
            cases k1
            have e0 : Ex (vis (Dl :: Xs) st1 σ (upd H1 Dl (.lst []))) (vis Xs st1 σ H1) := by
              rw [(show vis (Dl :: Xs) st1 σ (upd H1 Dl (.lst [])) = vis (Dl :: Xs) st1 σ H1 from msk_upd (List.mem_append_right _ List.mem_cons_self))]
              exact msk_sub fun a ha => by
                rcases List.mem_append.mp ha with ha | ha
                · exact List.mem_append_left _ ha
                · exact List.mem_append_right _ (List.mem_cons_of_mem _ ha)
            obtain ⟨u1, u2⟩ := rel_unwipe k6 hn r' hl (e0.trans ex')
            obtain ⟨t1, t2⟩ := rel_show (L := [Dl]) u1
            have tp : Post K Xs st1 σ H1 (backS st1 stE vs) H' := ⟨t1, (by rw [← u2] at ex'; exact ex'.trans t2), xs', dm', fun j es hj => by
              by_cases hm2 : j ∈ vs
              · have hlt : j < stE.length := by have := (List.getElem?_eq_some_iff.mp hj).1; rw [backS_len] at this; exact this
                rw [backS_in hm2 hlt hl.symm] at hj
                exact ⟨es, hj⟩
              · rw [backS_get hm2] at hj
                exact ol' j es (by rw [wipeS_get hm2]; exact hj)⟩
            have dq2 : DqAll K (vis (Dl :: Xs) (backS st1 stE vs) σ H') us rs := by rw [u2]; exact dq'
            refine h1 (.ref Dl) H' (p1.trans tp) ⟨.lst ?_ (dpAll_mono t2 dq2), fun _ => ⟨Dl, us, rs, rfl, rfl, p1.dom Dl hD, hD', dq2, u1⟩⟩
            have hh : Dl ∉ hid Xs (backS st1 stE vs) σ := fun z => by
              have := u1.nd
              rw [show hid (Dl :: Xs) (backS st1 stE vs) σ = ownd (backS st1 stE vs) σ ++ Dl :: Xs from rfl] at this
              exact (List.nodup_cons.mp (List.perm_middle.nodup_iff.mp this)).1 z
            show msk _ H' Dl = _
            rw [msk_out hh]
            exact hD'
      · exact h1.elim
  · exact h1.elim

variable {elt tg iter : Expr} {scope : Scope} {own : List (Str × Nat)} {pos : Pos} {it : EvI} {g : TG} {put : D → List Sl → SO} {t : EvT} {e : EvE}
theorem x_lc (hc : X.calm = true) (hN : X.N.Nodup) (hi : PI X tg iter (tI X.K w it)) (ok : BlkOk X.N X.env.scope scope own) (hw : GW (own.map (·.2)) g) (hgS : TgS X.K [] g put) (hp : PutO put)
    (hg : ∀ (s : Shared) (H : Hp) (C : Addr) (cl : List (Str × Addr)) (fp : List Addr), PG (X.blk s H scope (compEnvC scope cl C X.env) fp) tg g)
    (he : ∀ (s : Shared) (H : Hp) (C : Addr) (cl : List (Str × Addr)) (fp : List Addr), PE (X.blk s H scope (compEnvC scope cl C X.env) fp) elt (tE X.K (wF w.cl) e)) (hs : ∀ x, foldedSetIterable iter X.env x = pure x := by intro _; rfl) :
    PE X (.ListComp elt [⟨tg, iter, [], 0⟩] scope pos) (tE X.K w (eLc (own.map (·.2)) it put tTrue e)) :=
  PE.of (pe_lc hc hN hi ok hg (fun _ _ _ _ _ => pts_nil) he hs) fun σ H Q h => lc_of hgS hp hw (fun σ H R q => by
    obtain ⟨Xs, st, rel, q⟩ := q
    exact q H (Post.refl rel)) h
theorem x_lcIf {c : Expr} (hc : X.calm = true) (hN : X.N.Nodup) (hi : PI X tg iter (tI X.K w it)) (ok : BlkOk X.N X.env.scope scope own) (hw : GW (own.map (·.2)) g) (hgS : TgS X.K [] g put) (hp : PutO put)
    (hg : ∀ (s : Shared) (H : Hp) (C : Addr) (cl : List (Str × Addr)) (fp : List Addr), PG (X.blk s H scope (compEnvC scope cl C X.env) fp) tg g)
    (ht : ∀ (s : Shared) (H : Hp) (C : Addr) (cl : List (Str × Addr)) (fp : List Addr), PT (X.blk s H scope (compEnvC scope cl C X.env) fp) c (tT X.K (wF w.cl) t))
    (he : ∀ (s : Shared) (H : Hp) (C : Addr) (cl : List (Str × Addr)) (fp : List Addr), PE (X.blk s H scope (compEnvC scope cl C X.env) fp) elt (tE X.K (wF w.cl) e)) (hs : ∀ x, foldedSetIterable iter X.env x = pure x := by intro _; rfl) :
    PE X (.ListComp elt [⟨tg, iter, [c], 0⟩] scope pos) (tE X.K w (eLc (own.map (·.2)) it put t e)) :=
  PE.of (pe_lc hc hN hi ok hg (fun s H C cl fp => pts_one (ht s H C cl fp)) he hs) fun σ H Q h => lc_of hgS hp hw (fun σ H R q => q) h
theorem set_of {P : List Nat} {i : Nat} {ev : EvE} {Dn : Ends} {σ : L2.St} {H : Hp} (h : tS X.K w P (sSet P i ev) Dn σ H) : tAsg (tE X.K w ev) (gName i) Dn σ H := by
  obtain ⟨Xs, B, st, r, h⟩ := h
  exact tE_S r h fun v H1 z st1 p1 _ v1 h1 => put_of r p1 v1 h1
theorem xs_setLc {P : List Nat} (i : Nat) {y : Str} {py spos : Pos} (hc : X.calm = true) (hN : X.N.Nodup) (hi : PI X tg iter (tI X.K w it)) (ok : BlkOk X.N X.env.scope scope own) (hw : GW (own.map (·.2)) g) (hgS : TgS X.K [] g put) (hp : PutO put)
    (hg : ∀ (s : Shared) (H : Hp) (C : Addr) (cl : List (Str × Addr)) (fp : List Addr), PG (X.blk s H scope (compEnvC scope cl C X.env) fp) tg g)
    (he : ∀ (s : Shared) (H : Hp) (C : Addr) (cl : List (Str × Addr)) (fp : List Addr), PE (X.blk s H scope (compEnvC scope cl C X.env) fp) elt (tE X.K (wF w.cl) e)) (hy : X.N[i]? = some y := by rfl) (hyl : X.env.scope.names.lookup y = some .local := by rfl)
    (hsw : swapsWith (.ListComp elt [⟨tg, iter, [], 0⟩] scope pos) (some (.Name y py)) spos.line X.env = pure true := by rfl) (hs : ∀ x, foldedSetIterable iter X.env x = pure x := by intro _; rfl) :
    PS X (.Assign [.Name y py] (.ListComp elt [⟨tg, iter, [], 0⟩] scope pos) spos) (tS X.K w P (sSet P i (eLc (own.map (·.2)) it put tTrue e))) :=
  PS.of (ps_setLc hc hN hy hyl hsw hi ok hg (fun _ _ _ _ _ => pts_nil) he hs) fun Dn σ H h => by
    have h2 : tE X.K w (eLc (own.map (·.2)) it put tTrue e) σ H (fun v H1 => gName i v σ H1 Dn.nx) := set_of h
    exact lc_of hgS hp hw (fun σ H R q => by
      obtain ⟨Xs, st, rel, q⟩ := q
      exact q H (Post.refl rel)) h2
theorem xs_setLcIf {P : List Nat} (i : Nat) {y : Str} {py spos : Pos} {c : Expr} (hc : X.calm = true) (hN : X.N.Nodup) (hi : PI X tg iter (tI X.K w it)) (ok : BlkOk X.N X.env.scope scope own) (hw : GW (own.map (·.2)) g) (hgS : TgS X.K [] g put) (hp : PutO put)
    (hg : ∀ (s : Shared) (H : Hp) (C : Addr) (cl : List (Str × Addr)) (fp : List Addr), PG (X.blk s H scope (compEnvC scope cl C X.env) fp) tg g)
    (ht : ∀ (s : Shared) (H : Hp) (C : Addr) (cl : List (Str × Addr)) (fp : List Addr), PT (X.blk s H scope (compEnvC scope cl C X.env) fp) c (tT X.K (wF w.cl) t))
    (he : ∀ (s : Shared) (H : Hp) (C : Addr) (cl : List (Str × Addr)) (fp : List Addr), PE (X.blk s H scope (compEnvC scope cl C X.env) fp) elt (tE X.K (wF w.cl) e)) (hy : X.N[i]? = some y := by rfl) (hyl : X.env.scope.names.lookup y = some .local := by rfl)
    (hsw : swapsWith (.ListComp elt [⟨tg, iter, [c], 0⟩] scope pos) (some (.Name y py)) spos.line X.env = pure true := by rfl) (hs : ∀ x, foldedSetIterable iter X.env x = pure x := by intro _; rfl) :
    PS X (.Assign [.Name y py] (.ListComp elt [⟨tg, iter, [c], 0⟩] scope pos) spos) (tS X.K w P (sSet P i (eLc (own.map (·.2)) it put t e))) :=
  PS.of (ps_setLc hc hN hy hyl hsw hi ok hg (fun s H C cl fp => pts_one (ht s H C cl fp)) he hs) fun Dn σ H h => by
    have h2 : tE X.K w (eLc (own.map (·.2)) it put t e) σ H (fun v H1 => gName i v σ H1 Dn.nx) := set_of h
    exact lc_of hgS hp hw (fun σ H R q => q) h2
end
end TX

end

section
set_option Elab.async false
set_option linter.all false
set_option maxRecDepth 100000
set_option maxHeartbeats 2000000
namespace TX
open PySem L2 Evl PyProof.Rows

theorem Room.u64 {k : Nat} {A : Around} (r : Room k A) : A.units + 64 < cLine := by have := r.un; omega
theorem Room.u65 {k : Nat} {A : Around} (r : Room k A) : A.units + 65 < cLine := by have := r.un; omega
section
variable {P : Program} {w : World} {K : PySem.W.Frag} {mg : Str → Option Value} {base : Heap}
/-- a def keeps the promise that its body's run tells -/
theorem def_okD {x qual : Str} {params : Arguments} {body : List Stmt} {scope : Scope} {f : Addr} {fd : FuncData} {N ps : List Str} {k : Nat} {cl : Nat → Addr} {Ps : List Nat} {eb : EvS} (F : FunD K x qual params body scope [] [] f fd) (S : FnScope N ps scope)
    (hb : ∀ (cdv : Value) (A : Around) (outer : List Env) (s : Shared) (H : Hp) (E : XK), Room k (A.deeper (envOfC qual scope s.heap.objs.size f cdv)) →
      PSs (cxOf (L2.CX P w) P w K mg base N qual scope f cdv A outer s H E) body (tS K ⟨fun c dx _ H' => E c dx H', cl⟩ Ps eb)) :
    FnOk P w K mg base (L2.CX P w) (k + 1) f fd ps (spF K cl (defEv N.length ps.length Ps eb)) :=
  F.ok S (fun vs H Q E h => spF_len h) fun cdv A outer s H vs Q E hr h => ⟨_, hb cdv A outer s H E hr, def_reads h⟩
end
/-! ### a, b, c = x, y, z -/
def sPar3 (P : List Nat) (i j l : Nat) (a : EvA) : EvS := fun st => (a st).toS fun ds st1 => match ds with
  | [d, e, g] => if i ∈ P ∨ j ∈ P ∨ l ∈ P then .no else .nx (((st1.set i (.pu d)).set j (.pu e)).set l (.pu g))
  | _ => .no
section
variable {X : Cx} {w : Wi} {P : List Nat} {pos : Pos}
theorem xs_par3 (i j l : Nat) {x y z : Str} {a b c : Expr} {ev : EvA} {px py pz pt : Pos} {kt k2 : Nat} {pt2 : Pos} (ha : PA X [a, b, c] (tA X.K w ev)) (hc : X.calm = true) (hN : X.N.Nodup) (hi : X.N[i]? = some x := by rfl) (hj : X.N[j]? = some y := by rfl) (hl : X.N[l]? = some z := by rfl) (hij : i ≠ j := by decide) (hil : i ≠ l := by decide) (hjl : j ≠ l := by decide)
    (hx : X.env.scope.names.lookup x = some .local := by rfl) (hy : X.env.scope.names.lookup y = some .local := by rfl) (hz : X.env.scope.names.lookup z = some .local := by rfl)
    (hw : swappedStores [.Tuple [.Name x px, .Name y py, .Name z pz] kt pt] (.Tuple [a, b, c] k2 pt2) X.env = pure (some [x, y, z]) := by rfl)
    (hs : swapsWithSole [.Tuple [.Name x px, .Name y py, .Name z pz] kt pt] (.Tuple [a, b, c] k2 pt2) pos.line X.env = pure false := by rfl) :
    PS X (.Assign [.Tuple [.Name x px, .Name y py, .Name z pz] kt pt] (.Tuple [a, b, c] k2 pt2) pos) (tS X.K w P (sPar3 P i j l ev)) :=
  PS.of (ps_par3 hc hN hi hj hl hij hil hjl hx hy hz ha hw hs) fun Dn σ H h => by
    obtain ⟨Xs, B, st, r, h⟩ := h
    refine tA_S r h fun vs H1 ds st1 p1 p q h1 => ?_
    split at h1
    · next d e g =>
      split at h1
      · exact h1.elim
      · next hc =>
        cases q with
        | cons q1 q2 =>
          cases q2 with
          | cons q2 q3 =>
            cases q3 with
            | cons q3 q4 =>
              cases q4
              have s1 := relS_set p.rel (i := i) (fun z => hc (.inl z)) (.inr ⟨d, rfl, q1⟩)
              have s2 := relS_set s1.rel (i := j) (fun z => hc (.inr (.inl z))) (.inr ⟨e, rfl, dp_mono s1.ex q2⟩)
              have s3 := relS_set s2.rel (i := l) (fun z => hc (.inr (.inr z))) (.inr ⟨g, rfl, dp_mono (s1.ex.trans s2.ex) q3⟩)
              exact ⟨_, _, _, rfl, h1 _ _ (((p.trans s1).trans s2).trans s3)⟩
    · exact h1.elim
end
/-! ### a named list beside a value, not let go -/
def eBinV (f : D → D → Option R1) (i : Nat) (b : EvE) : EvE := fun st => match slD st[i]? with
  | none => .no
  | some _ => (b st).bind fun y st1 => match slD st1[i]? with
    | none => .no
    | some d => match f d y.1 with
      | some z => .ok z st1
      | none => .no
/-- a rule that takes an owned list on the left -/
def OpV (K : PySem.W.Frag) (r : R2) (f : D → D → Option R1) : Prop := ∀ (Xs : List Addr) (st : List Sl) (σ : L2.St) (H : Hp) (x y : V) (dx dy : D) (z : R1) (Q : VK), Rel K Xs st σ H → Bq K Xs st σ H x dx → Dq K (vis Xs st σ H) y dy → f dx dy = some z →
  (∀ v H', Post K Xs st σ H st H' → Val K Xs σ H st H' v z → Q v H') → r x y H Q
theorem tOpV_of {K : PySem.W.Frag} {w : Wi} {r : R2} {f : D → D → Option R1} {i : Nat} {eb : EvE} (ho : OpV K r f) {σ : L2.St} {H : Hp} {Q : VK} (h : tE K w (eBinV f i eb) σ H Q) : tOp r (tVar i) (tE K w eb) σ H Q := by
  obtain ⟨Xs, st, rel, h⟩ := h
  unfold eBinV at h
  split at h
  · exact h.elim
  · next d0 e0 =>
    obtain ⟨v, ev, _⟩ := slD_at rel e0
    refine ⟨v, ev, tE_seq rel h fun y H1 ry st1 p1 v1 h1 => ?_⟩
    split at h1
    · exact h1.elim
    · next d e1 =>
      split at h1
      · next z ez =>
        obtain ⟨v', ev', hv'⟩ := slD_at p1.rel e1
        have evv : v' = v := by rw [ev] at ev'; cases ev'; rfl
        subst evv
        exact ho Xs st1 σ H1 v' y d ry.1 z Q p1.rel hv' v1.dp ez fun u H2 p2 v2 => h1 u H2 (p1.trans p2) (.of p1 v2)
      · exact h1.elim
section
variable {K : PySem.W.Frag}
theorem bq_full {Xs : List Addr} {st : List Sl} {σ : L2.St} {H : Hp} {x : V} {d : D} (h : Bq K Xs st σ H x d) : Dq K H x d := by
  rcases h with h | ⟨p, vs, ds, rfl, rfl, h1, h2⟩
  · exact dp_mono msk_ex h
  · exact .lst h1 (dpAll_mono msk_ex h2)
theorem opv_eq : OpV K (rEqD K) (fEq true) := by
  intro Xs st σ H x y dx dy z Q rel hx hy hz hq
  unfold fEq at hz
  split at hz
  · next h =>
    cases hz
    rw [Bool.and_eq_true] at h
    refine ⟨dx.toP, dy.toP, (bq_full hx).dp (SeqAt.canLay_of_shaped h.1), (dp_mono msk_ex hy).dp (SeqAt.canLay_of_shaped h.2), h.1, h.2, hq _ H (Post.refl rel) (.old ?_)⟩
    show Dq K _ (V.bl _) (D.bl (PyData.eqv dx.toP dy.toP == true))
    rw [b_true]
    exact .bl _
  · cases hz
theorem opv_ne : OpV K (rNeD K) (fEq false) := by
  intro Xs st σ H x y dx dy z Q rel hx hy hz hq
  unfold fEq at hz
  split at hz
  · next h =>
    cases hz
    rw [Bool.and_eq_true] at h
    refine ⟨dx.toP, dy.toP, (bq_full hx).dp (SeqAt.canLay_of_shaped h.1), (dp_mono msk_ex hy).dp (SeqAt.canLay_of_shaped h.2), h.1, h.2, hq _ H (Post.refl rel) (.old ?_)⟩
    show Dq K _ (V.bl _) (D.bl (PyData.eqv dx.toP dy.toP == false))
    rw [b_false]
    exact .bl _
  · cases hz
end
section
variable {X : Cx} {w : Wi} {pos apos : Pos} {b : Expr} {eb : EvE} {x : Str}
theorem x_eqV (i : Nat) (hu : X.A.units + 64 < cLine) (hb : PE X b (tE X.K w eb)) (hN : X.N[i]? = some x := by rfl) (hv : Vis X.env.scope x := by first | exact Or.inl rfl | exact Or.inr (Or.inl rfl) | exact Or.inr (Or.inr rfl)) (hd : (x == ("__debug__" : Str)) = false := by decide) (hcd : (x == ("__classdict__" : Str)) = false := by decide) (hm : behindInMarks .Eq b = false := by first | exact nomark _ | rfl) :
    PE X (.Compare (.Name x apos) [.Eq] [b] pos) (tE X.K w (eBinV (fEq true) i eb)) := PE.of (pe_cmpR (op_eqD hu) (pe_var hN hv hd hcd) hb hm) fun σ H Q h => tOpV_of opv_eq h
theorem x_neV (i : Nat) (hu : X.A.units + 64 < cLine) (hb : PE X b (tE X.K w eb)) (hN : X.N[i]? = some x := by rfl) (hv : Vis X.env.scope x := by first | exact Or.inl rfl | exact Or.inr (Or.inl rfl) | exact Or.inr (Or.inr rfl)) (hd : (x == ("__debug__" : Str)) = false := by decide) (hcd : (x == ("__classdict__" : Str)) = false := by decide) (hm : behindInMarks .NotEq b = false := by first | exact nomark _ | rfl) :
    PE X (.Compare (.Name x apos) [.NotEq] [b] pos) (tE X.K w (eBinV (fEq false) i eb)) := PE.of (pe_cmpR (op_neD hu) (pe_var hN hv hd hcd) hb hm) fun σ H Q h => tOpV_of opv_ne h
theorem xt_cmpV {r : R2} {f : D → D → Option R1} {op : CmpOp} (i : Nat) (ho : OpR X (compareOp op) r) (hs : OpV X.K r f) (hb : PE X b (tE X.K w eb)) (hm : behindInMarks op b = false) (hN : X.N[i]? = some x) (hv : Vis X.env.scope x) (hd : (x == ("__debug__" : Str)) = false) (hcd : (x == ("__classdict__" : Str)) = false) :
    PT X (.Compare (.Name x apos) [op] [b] pos) (tT X.K w (tOf (eBinV f i eb))) := PT.of (pt_cmpR ho (pe_var hN hv hd hcd) hb hm) fun σ H Q h => by
  obtain ⟨Xs, st, rel, h⟩ := h
  show tOp r (tVar i) (tE X.K w eb) σ H _
  refine tOpV_of hs (tE_seq rel h fun x H1 rx st1 p1 v1 h1 => ?_)
  split at h1
  · next c ec =>
    have dp := v1.dp
    rw [bool?_of ec] at dp
    cases dp
    exact ⟨c, rfl, h1 H1 p1⟩
  · exact h1.elim
theorem xt_eqV (i : Nat) (hu : X.A.units + 64 < cLine) (hb : PE X b (tE X.K w eb)) (hN : X.N[i]? = some x := by rfl) (hv : Vis X.env.scope x := by first | exact Or.inl rfl | exact Or.inr (Or.inl rfl) | exact Or.inr (Or.inr rfl)) (hd : (x == ("__debug__" : Str)) = false := by decide) (hcd : (x == ("__classdict__" : Str)) = false := by decide) :
    PT X (.Compare (.Name x apos) [.Eq] [b] pos) (tT X.K w (tOf (eBinV (fEq true) i eb))) := xt_cmpV i (op_eqD hu) opv_eq hb (nomark _) hN hv hd hcd
theorem xt_neV (i : Nat) (hu : X.A.units + 64 < cLine) (hb : PE X b (tE X.K w eb)) (hN : X.N[i]? = some x := by rfl) (hv : Vis X.env.scope x := by first | exact Or.inl rfl | exact Or.inr (Or.inl rfl) | exact Or.inr (Or.inr rfl)) (hd : (x == ("__debug__" : Str)) = false := by decide) (hcd : (x == ("__classdict__" : Str)) = false := by decide) :
    PT X (.Compare (.Name x apos) [.NotEq] [b] pos) (tT X.K w (tOf (eBinV (fEq false) i eb))) := xt_cmpV i (op_neD hu) opv_ne hb (nomark _) hN hv hd hcd
end
end TX
namespace TX
open PySem L2 Evl PyProof.Rows
theorem names_g {X : Cx} {x : Str} {c : Value} (h : X.mg x = some c) (hg : Gl X x := by rfl) (hd : (x == ("__debug__" : Str)) = false := by decide) : Names X x c := ⟨hg, hd, .inl h⟩
theorem fn_no {P : Program} {w : World} {K : PySem.W.Frag} {mg : Str → Option Value} {base : Heap} {k : Nat} {f : Addr} {fd : FuncData} {ps : List Str} {cl : Nat → Addr} : FnOk P w K mg base (L2.CX P w) k f fd ps (spF K cl fun _ => .no) where
  len := fun vs H Q E h => by obtain ⟨Xs, st, rel, h⟩ := h; exact h.elim
  run := fun A outer s H args us vs Q E _ _ _ _ h => by obtain ⟨Xs, st, rel, h⟩ := h; exact h.elim
theorem kwb_of {K : PySem.W.Frag} {x qual : Str} {params : Arguments} {body : List Stmt} {scope : Scope} {f : Addr} {fd : FuncData} {ps ks : List Str} {n : Nat} {pm : {α : Type} → List α → List α} (F : FunD K x qual params body scope [] [] f fd)
    (h : ∀ (kV doc pm' : Value) (an : Option Addr) (cdv ct : Value) (us ws : List Value), us.length = n → ws.length = ks.length → bindArgs (PySem.W.fnOf x qual params body scope .none kV doc pm' an cdv ct) ⟨us, ks.zip ws⟩ = pure (ps.zip (pm (us ++ ws))))
    (h2 : ∀ {α β : Type} (R : α → β → Prop) (as : List α) (bs : List β), as.length = n + ks.length → Paired R as bs → Paired R (pm as) (pm bs))
    (h3 : ∀ (K : PySem.W.Frag) (H : Hp) (vs : List V) (ds : List D), vs.length = n + ks.length → DqAll K H vs ds → DqAll K H (pm vs) (pm ds)) : KwB fd ps ks n pm := by
  obtain ⟨oc, od, dV, kV, doc, pm', an, cdv, ct, osl, rfl, lk, hcd, hD, hK⟩ := F.ex
  rcases hD with ⟨_, rfl⟩ | ⟨e, _⟩
  · exact ⟨fun s us ws h1 h2 => .of_eq (h kV doc pm' an cdv ct us ws h1 h2), h2, h3⟩
  · exact absurd rfl e
end TX

end

section
set_option Elab.async false
set_option linter.all false
set_option maxRecDepth 100000
set_option maxHeartbeats 2000000
namespace TX
open PySem L2 PyProof.Rows
open PySem.W (Frag findIn typeIn keepIn subIn hasDictIn exmOne nsIn)

/-! ### what the head is asked: a check of the heap behind the top, and the defs' objects -/
def obsX (chk : Frag → Bool) (fn : List He.DefD) (K : Frag) : He.AlD := (chk K && fn.all fun d => d.ok K, fn.map fun d => He.fnW K d.at_)
def SaysX (chk : Frag → Bool) (fn : List He.DefD) (K : Frag) : Prop := obsX chk fn K = He.valD fn
def obsXG (n : Nat) (chk : Frag → Bool) (fn : List He.DefD) (g : Addr → Option Obj) : He.AlD := obsX chk fn (He.frG g (He.asD g n))
def hookX (n : Nat) (chk : Frag → Bool) (fn : List He.DefD) : PySem.W.Hook where
  α := He.AlD
  obs := fun s => obsXG n chk fn s.heap.get?
  val := fun _ => He.valD fn
  says := fun _ h => ∃ K : Frag, K.In h ∧ SaysX chk fn K
  of := fun _ _ e => ⟨_, He.frG_in, e⟩
  keeps := fun _ _ _ ⟨K, hK, c⟩ k => ⟨K, PySem.W.Frag.In.keeps hK k, c⟩
theorem obsXG_eq {n : Nat} {chk : Frag → Bool} {fn : List He.DefD} {g : Addr → Option Obj} {s : Shared} (h : ∀ a, g a = s.heap.get? a) : obsXG n chk fn g = (hookX n chk fn).obs s := by
  obtain rfl : g = s.heap.get? := funext h
  rfl
section
variable {ck : Frag → Bool} {fn : List He.DefD} {K : Frag}
theorem SaysX.chk (c : SaysX ck fn K) : ck K = true := (Bool.and_eq_true_iff.mp (congrArg (fun z : He.AlD => z.1) c : (ck K && fn.all fun d => d.ok K) = true)).1
/-- the same of defs alone -/
theorem SaysX.d (c : SaysX ck fn K) : He.SaysD [] fn K := by
  have h1 := (Bool.and_eq_true_iff.mp (congrArg (fun z : He.AlD => z.1) c : (TX.obsX ck fn K).1 = true)).2
  have h2 : (TX.obsX ck fn K).2 = (He.valD fn).2 := congrArg (fun z : He.AlD => z.2) c
  show He.obsD [] fn K = He.valD fn
  unfold He.obsD
  refine Prod.ext ?_ h2
  show (([] : List He.Fa).all (fun f => f.ok K) && fn.all fun d => d.ok K) = true
  rw [h1]
  rfl
theorem SaysX.def_ (c : SaysX ck fn K) (i : Nat) {d : He.DefD} (h : fn[i]? = some d := by rfl) : ∃ fd, FunD K d.name d.qual d.params d.body d.scope (d.dvs K) (d.kws K) (He.fAd K d.at_) fd := c.d.def_ i h
end

/-! ### the error classes -/
def isOk (a b : Option (Option Value)) : Bool := decide (a = b)
/-- the class object at C -/
def errObj (K : Frag) (C : Addr) : Bool := match K.lookup C with
  | some o => (match o.cls, o.data with
    | .type t, .cls cd => decide (t = "type") && (match cd.mro with
      | .ref c :: bm => decide (c = C) && HandSPX.refsVE bm
      | _ => false) && (cd.hasDict && !cd.hasDel) && (match o.slots.toList with
      | [_, _, _, _, some (.builtin n), _] => decide (n = "ValueError.__new__")
      | _ => false)
    | _, _ => false)
  | none => false
theorem errObj_ok {K : Frag} {C : Addr} (h : errObj K C = true) : ∃ nm q N bs bm sn sub ab col dd k0 k1 k2 k3 k5, K.lookup C = some (excClassObj nm q C N bs bm true sn sub ab col dd k0 k1 k2 k3 k5 "ValueError.__new__") ∧ HandSPX.refsVE bm = true := by
  unfold errObj at h
  split at h
  · next o e =>
    obtain ⟨oc, od, dt, sl⟩ := o
    split at h
    · next t cd e1 e2 =>
      dsimp only at e1 e2
      subst e1 e2
      simp only [Bool.and_eq_true, decide_eq_true_eq, Bool.not_eq_true'] at h
      obtain ⟨⟨⟨h1, h2⟩, h3, h4⟩, h5⟩ := h
      split at h2
      · next c bm em =>
        simp only [Bool.and_eq_true, decide_eq_true_eq] at h2
        split at h5
        · next a0 a1 a2 a3 n a5 es =>
          obtain ⟨nm, bs, mro, ns, qn, hd, sn, sub, ab, col, del⟩ := cd
          dsimp only at em h3 h4
          have hsl : sl = #[a0, a1, a2, a3, some (.builtin n), a5] := by
            obtain ⟨l⟩ := sl
            exact congrArg Array.mk es
          obtain ⟨h2a, h2b⟩ := h2
          have h5' : n = "ValueError.__new__" := by simpa using h5
          subst h1 em h3 h4 hsl h2a h5'
          exact ⟨nm, qn, ns, bs, bm, sn, sub, ab, col, od, a0, a1, a2, a3, a5, e, h2b⟩
        · cases h5
      · cases h2
    · cases h
  · cases h
/-- what is asked of an error class -/
def errB (K : Frag) (C fI : Addr) : Bool :=
  errObj K C && isOk (findIn K (.ref C) "__setattr__") (some (some (.builtin "object.__setattr__"))) && isOk (findIn K (.ref C) "__getattribute__") (some (some (.builtin "BaseException.__getattribute__"))) &&
  isOk (findIn K (.ref C) "__getattr__") (some none) && isOk (findIn K (.ref C) "value") (some none) && isOk (findIn K (.ref C) "__init__") (some (some (.ref fI))) && decide (typeIn K (.ref fI) = some (.type "function")) &&
  keepIn K (.ref C) && decide (subIn K (.ref C) (.type "BaseException") = some true) && decide (typeIn K (.ref C) = some (.type "type")) && hasDictIn K C && decide (exmOne K (.ref C) (.ref C) = some true)
/-- where the text of __init__ stands -/
def initD (p1 p2 q1 q2 q3 q4 : Pos) : He.DefD := ⟨("TellError", some "__init__"), "__init__", "TellError.__init__", TellX.iA p1 p2, TellX.iB q1 q2 q3 q4, TellX.iS, [], []⟩
theorem errB_ok {K : Frag} {C fI : Addr} {fd : FuncData} {p1 p2 q1 q2 q3 q4 : Pos} (h : errB K C fI = true) (F : FunD K "__init__" "TellError.__init__" (TellX.iA p1 p2) (TellX.iB q1 q2 q3 q4) TellX.iS [] [] fI fd) : TellX.TellTxt K C fI := by
  unfold errB isOk at h
  simp only [Bool.and_eq_true, decide_eq_true_eq] at h
  obtain ⟨⟨⟨⟨⟨⟨⟨⟨⟨⟨⟨h1, h2⟩, h3⟩, h4⟩, h5⟩, h6⟩, h7⟩, h8⟩, h9⟩, h10⟩, h11⟩, h12⟩ := h
  obtain ⟨oc, od, dV, kV, doc, pm, an, cdv, ct, osl, e1, e2, e3, hD, hK⟩ := F.ex
  subst e1
  have hv : dV = .none := by
    rcases hD with ⟨_, e⟩ | ⟨e, _⟩
    · exact e
    · exact absurd rfl e
  subst hv
  exact { cls := errObj_ok h1, sa := h2, ga := h3, gg := h4, noN := h5, iC := h6, tC := h7, kC := h8, exC := h9, tyC := h10, hdC := h11, te := h12, fn := ⟨oc, od, kV, doc, pm, an, cdv, ct, osl, p1, p2, q1, q2, q3, q4, e2, e3⟩ }
end TX

end

section
set_option Elab.async false
set_option linter.all false
set_option maxRecDepth 100000
set_option maxHeartbeats 2000000
namespace TX
open PySem L2 Evl PyProof.Rows

/-! ### the law's own def: it lets nothing out -/
def sp0 (K : PySem.W.Frag) (cl : Nat → Addr) (φ : EvE) : Sp := fun vs H Q _ => spF K cl φ vs H Q fun _ _ _ => False
section
variable {P : Program} {w : World} {K : PySem.W.Frag} {mg : Str → Option Value} {base : Heap}
theorem def_ok0 {x qual : Str} {params : Arguments} {body : List Stmt} {scope : Scope} {f : Addr} {fd : FuncData} {N ps : List Str} {k : Nat} {cl : Nat → Addr} {Ps : List Nat} {eb : EvS} (F : FunD K x qual params body scope [] [] f fd) (S : FnScope N ps scope)
    (hb : ∀ (cdv : Value) (A : Around) (outer : List Env) (s : Shared) (H : Hp) (E : XK), Room k (A.deeper (envOfC qual scope s.heap.objs.size f cdv)) →
      PSs (cxOf CX0 P w K mg base N qual scope f cdv A outer s H E).nox body (tS K (wF cl) Ps eb)) :
    FnOk P w K mg base CX0 (k + 1) f fd ps (sp0 K cl (defEv N.length ps.length Ps eb)) :=
  F.ok S (fun vs H Q E h => spF_len h) fun cdv A outer s H vs Q E hr h => ⟨_, PSs.nox (hb cdv A outer s H E hr), def_reads h⟩
/-- the law's promise from its run -/
theorem law_sp {cl : Nat → Addr} {φ : EvE} {H : Hp} {a : Addr} {ns : List Int} {b : Bool} {st' : List Sl} (hs : SqL K H a (ns.map V.int)) (h : φ [.pu (.scr ns)] = .ok (.bl true, b) st') : sp0 K cl φ [.ref a] H (fun v _ => v = .bl true) fun _ _ _ => False := by
  have ev : vis [] [.pu (.scr ns)] ([V.ref a].map some) H = H := msk_nil
  refine ⟨[], [.pu (.scr ns)], ⟨rfl, by show ([] : List Addr).Nodup; exact .nil, fun i d hi => ?_, fun i ds hi => ?_, fun x hx => by cases hx⟩, ?_⟩
  · cases i with
    | zero => cases hi; exact ⟨_, rfl, by rw [ev]; exact .scr hs⟩
    | succ i => simp at hi
  · cases i with
    | zero => cases hi
    | succ i => simp at hi
  · rw [h]
    intro v H' p q
    cases q.dp
    rfl
end
end TX
namespace TX
open PySem L2 Evl PyProof.Rows
/-- what isinstance of an instance asks of its class -/
def errI (K : PySem.W.Frag) (C : Addr) : Bool := (PySem.W.clsIn K C).isSome && isOk (PySem.W.findIn K (.ref C) "__class__") (some (some (.builtin "object.__class__"))) && isOk (PySem.W.specialIn K (.builtin "object.__class__") "__get__") (some (some (.builtin "getset_descriptor.__get__"))) &&
  decide (PySem.W.takesIn K (.builtin "object.__class__") = some true) && decide (PySem.W.mroIn K C (.type "object") = some true)
theorem tell_good {K : PySem.W.Frag} {C fI : Addr} (T : PySem.TellX.TellTxt K C fI) (hI : errI K C = true) : GoodC K C := by
  unfold errI isOk at hI
  simp only [Bool.and_eq_true, decide_eq_true_eq] at hI
  obtain ⟨⟨⟨⟨h1, h2⟩, h3⟩, h4⟩, h5⟩ := hI
  exact ⟨T.ga, T.gg, T.exC, T.hdC, T.noN, h1, h2, h3, h4, h5⟩
theorem errK_of {K : PySem.W.Frag} {cl : Nat → Addr} {mt : Nat → Nat → Bool} {n : Nat} (h : ∀ c k, c < n → k < n → PySem.W.exmOne K (.ref (cl c)) (.ref (cl k)) = some (mt c k)) (g : ∀ c, c < n → GoodC K (cl c)) : ErrK K cl mt n := ⟨h, g⟩
end TX
namespace TX
theorem getD_at {α : Type} {l : List α} {d : α} {c : Nat} (h : c < l.length) : l[c]? = some (l.getD c d) := by
  rw [List.getD_eq_getElem?_getD, List.getElem?_eq_getElem h]
  rfl
end TX

end

section
set_option Elab.async false
set_option linter.all false
set_option maxRecDepth 100000
set_option maxHeartbeats 2000000
namespace TX
open PySem L2 Evl PyProof.Rows

/-! ### defs that may show a list's text: they run where nothing is being shown -/
/-- FnOk for such places -/
structure FnG (P : Program) (w : World) (K : PySem.W.Frag) (mg : Str → Option Value) (base : Heap) (CX : CXT) (k : Nat) (f : Addr) (fd : FuncData) (ps : List Str) (sp : Sp) : Prop where
  len : ∀ vs H Q E, sp vs H Q E → vs.length = ps.length
  run : ∀ (A : Around), A.guards = some [] → ∀ (out : List Env) (s : Shared) (H : Hp) (as : Args) (us : List Value) (vs : List V) (Q : VK) (E : XK), Room k A → Env0 P w K mg base A out s H → BindsTo s fd as (ps.zip us) → Vals vs us → sp vs H Q E →
    codeAny (model P w) A (.call (.ref f) as) (CR CX out P w H s Q E) s
theorem FnG.of {P : Program} {w : World} {K : PySem.W.Frag} {mg : Str → Option Value} {base : Heap} {CX : CXT} {k : Nat} {f : Addr} {fd : FuncData} {ps : List Str} {sp : Sp} (F : FnOk P w K mg base CX k f fd ps sp) : FnG P w K mg base CX k f fd ps sp :=
  ⟨F.len, fun A _ out s H as us vs Q E => F.run A out s H as us vs Q E⟩
section
variable {CX : CXT} {P : Program} {w : World} {K : PySem.W.Frag} {mg : Str → Option Value} {base : Heap} {k : Nat} {f : Addr} {x qual : Str} {params : Arguments} {body : List Stmt} {scope : Scope} {fd : FuncData} {N ps : List Str} {sp : Sp}
theorem fng_of (F : FunD K x qual params body scope [] [] f fd) (S : FnScope N ps scope) (len : ∀ vs H Q E, sp vs H Q E → vs.length = ps.length)
    (hb : ∀ (cdv : Value) (A : Around) (out : List Env) (s : Shared) (H : Hp) (vs : List V) (Q : VK) (E : XK), A.guards = some [] → Room k (A.deeper (envOfC qual scope s.heap.objs.size f cdv)) → sp vs H Q E →
      ∃ t, PSs (cxOf CX P w K mg base N qual scope f cdv A out s H E) body t ∧ t { nx := fun _ H' => Q .non H', rt := Q } (L2.start N vs) H) : FnG P w K mg base CX (k + 1) f fd ps sp where
  len := len
  run := by
    intro A hA out s H as us vs Q E room env bind rel promise
    obtain ⟨oc, od, dV, kV, doc, pm, an, cdv, ct, osl, efd, hk, hcode, _, _⟩ := F.ex
    subst efd
    have inK : K.In s.heap := env.mod.kin.keeps fun _ _ q => (env.bs _ _ q).1
    have nolim : s.heap.NoLimit := env.mod.nolimit.keeps fun _ _ q => (env.bs _ _ q).1
    refine codeAny_call_function room.depth (inK _ _ hk) rfl S.co S.gen rfl (PySem.W.codeRec_of inK hcode) (bind _ _ _ _ (wpAny_newFunctionEnv_cells S.kind (fun y hy => ?_) fun env' e' s1 made => ?_))
    · have hm := (List.of_mem_zip (a := y.1) (b := y.2) hy).1
      exact (S.par _ hm).imp id fun q => ⟨q, PySem.W.cellsFrom_some _ _ _ (.inl q)⟩
    · subst e'
      refine ⟨nolim.keeps made.toInCall.keep, codeAny_func ?_⟩
      obtain ⟨t, run, reads⟩ := hb cdv A out s H vs Q E hA (room.deeper _) promise
      refine wpAny_mono (run.run [] s1 _ H _ (inv_start S room.hd env (len _ _ _ _ promise) rel made) reads) (fun fl s' hs => ?_) fun _ _ hs => hs
      have done : ∀ {σ' : L2.St} {H' : Hp} {v : V} {u : Value}, Inv (cxOf CX P w K mg base N qual scope f cdv A out s H E) [] σ' H' s' → RelV v u → Q v H' → CE out P w H s Q u s' := fun {_ H' v _} J rv q => ⟨v, H', J.os, J.bare, J.base, J.hok, rv, q⟩
      cases fl with
      | next => obtain ⟨_, _, J, q⟩ := hs; exact done (v := .non) (u := .none) J rfl q
      | ret u => obtain ⟨_, _, _, J, rv, q⟩ := hs; exact done J rv q
      | brk => obtain ⟨_, _, _, q⟩ := hs; exact q.elim
      | cont => obtain ⟨_, _, _, q⟩ := hs; exact q.elim
theorem def_okG {cl : Nat → Addr} {Ps : List Nat} {eb : EvS} (F : FunD K x qual params body scope [] [] f fd) (S : FnScope N ps scope)
    (hb : ∀ (cdv : Value) (A : Around) (outer : List Env) (s : Shared) (H : Hp) (E : XK), A.guards = some [] → Room k (A.deeper (envOfC qual scope s.heap.objs.size f cdv)) →
      PSs (cxOf (L2.CX P w) P w K mg base N qual scope f cdv A outer s H E) body (tS K ⟨fun c dx _ H' => E c dx H', cl⟩ Ps eb)) :
    FnG P w K mg base (L2.CX P w) (k + 1) f fd ps (spF K cl (defEv N.length ps.length Ps eb)) :=
  fng_of F S (fun vs H Q E h => spF_len h) fun cdv A outer s H vs Q E hA hr h => ⟨_, hb cdv A outer s H E hA hr, def_reads h⟩
theorem def_ok0G {cl : Nat → Addr} {Ps : List Nat} {eb : EvS} (F : FunD K x qual params body scope [] [] f fd) (S : FnScope N ps scope)
    (hb : ∀ (cdv : Value) (A : Around) (outer : List Env) (s : Shared) (H : Hp) (E : XK), A.guards = some [] → Room k (A.deeper (envOfC qual scope s.heap.objs.size f cdv)) →
      PSs (cxOf CX0 P w K mg base N qual scope f cdv A outer s H E).nox body (tS K (wF cl) Ps eb)) :
    FnG P w K mg base CX0 (k + 1) f fd ps (sp0 K cl (defEv N.length ps.length Ps eb)) :=
  fng_of F S (fun vs H Q E h => spF_len h) fun cdv A outer s H vs Q E hA hr h => ⟨_, PSs.nox (hb cdv A outer s H E hA hr), def_reads h⟩
end
section
variable {X : Cx} {w : Wi} {x : Str} {p pos : Pos} {e : Expr} {es : List Expr} {ea : EvA} {ags : List Ag} {k : Nat} {f : Addr} {fd : FuncData} {ps : List Str} {φ : EvE}
/-- f(e, ..) of such a def -/
theorem pe_callG {sp : Sp} {t : TA} (F : FnG X.prog X.w X.K X.mg X.base (L2.CX X.prog X.w) k f fd ps sp) (gd : X.A.guards = some []) (hr : Room k X.A) (hm : X.mg x = some (.ref f)) (hk : PySem.W.keepIn X.K (.ref f) = true) (hb : Binds X.K fd ps []) (tk : Takes X w.W) (ha : PA X (e :: es) t)
    (hg : Gl X x) (hdb : (x == ("__debug__" : Str)) = false) (he : starEach (e :: es) X.env = (false, eval e X.env) :: starEach es X.env) (hpl : (backTo pos (starEach es X.env)).any (·.1) = false) :
    PE X (.Call (.Name x p) (e :: es) [] pos) (tCallS sp (WE w.W) t) := by
  refine ⟨fun pins s σ H Q I h => wpAny_Call_Name_kw (ld_glob I hg hm ?_ hdb)⟩
  refine PySem.W.callWith_K (h₀ := X.base) I.ok.mod.kin hk (thn (ha.run pos pins s σ H _ I h) fun us s1 hs => ?_) he hpl
  obtain ⟨vs, H1, J, rel, q⟩ := hs
  refine ⟨J.kIn, ?_⟩
  have ln : us.length = ps.length := rel.length.symm.trans (F.len _ _ _ _ q)
  have bt := hb s1 us J.kIn (by rw [List.append_nil]; exact ln)
  rw [List.append_nil] at bt
  refine wpAny_call (codeAny_mono (F.run X.A gd X.stack s1 H1 ⟨us, []⟩ us vs Q (WE w.W σ) hr J.env0 bt rel q) fun r s' hq => ?_)
  match r, hq with
  | .error ev, hq => exact passAt tk σ pins H1 s1 ev s' J hq
  | .ok (.ret u), hq => exact J.after hq
  | .ok .next, hq => exact hq.elim
  | .ok .brk, hq => exact hq.elim
  | .ok .cont, hq => exact hq.elim
theorem x_callG (F : FnG X.prog X.w X.K X.mg X.base (L2.CX X.prog X.w) k f fd ps (spF X.K w.cl φ)) (gd : X.A.guards = some []) (hr : Room k X.A) (hm : X.mg x = some (.ref f)) (hk : PySem.W.keepIn X.K (.ref f) = true) (hb : Binds X.K fd ps []) (tk : Takes X w.W) (ha : PA X (e :: es) (tA X.K w ea))
    (hg : Gl X x := by rfl) (hdb : (x == ("__debug__" : Str)) = false := by decide) (he : starEach (e :: es) X.env = (false, eval e X.env) :: starEach es X.env := by rfl) (hpl : (backTo pos (starEach es X.env)).any (·.1) = false := by rfl) :
    PE X (.Call (.Name x p) (e :: es) [] pos) (tE X.K w (eCallP ea id φ)) :=
  PE.of (pe_callG F gd hr hm hk hb tk ha hg hdb he hpl) fun σ H Q h => by
    obtain ⟨Xs, st, rel, h⟩ := h
    refine ⟨Xs, st, rel, ?_⟩
    unfold eCallP at h
    cases e : ea st with
    | ok ds st1 => rw [e] at h; exact fun vs H1 p1 hv => callP_of p1 hv h
    | ex c d st1 => rw [e] at h; exact h
    | no => rw [e] at h; exact h
theorem x_callAG (F : FnG X.prog X.w X.K X.mg X.base (L2.CX X.prog X.w) k f fd ps (spF X.K w.cl φ)) (gd : X.A.guards = some []) (hr : Room k X.A) (hm : X.mg x = some (.ref f)) (hk : PySem.W.keepIn X.K (.ref f) = true) (hb : Binds X.K fd ps []) (tk : Takes X w.W) (ha : PA X (e :: es) (agT X.K w ags))
    (hg : Gl X x := by rfl) (hdb : (x == ("__debug__" : Str)) = false := by decide) (he : starEach (e :: es) X.env = (false, eval e X.env) :: starEach es X.env := by rfl) (hpl : (backTo pos (starEach es X.env)).any (·.1) = false := by rfl) :
    PE X (.Call (.Name x p) (e :: es) [] pos) (tE X.K w (eCallA ags φ)) :=
  PE.of (pe_callG F gd hr hm hk hb tk ha hg hdb he hpl) fun σ H Q h => callA_of h
end
end TX

end

section
set_option Elab.async false
set_option linter.all false
set_option maxRecDepth 100000
set_option maxHeartbeats 2000000
namespace TX
open PySem L2 PyProof.Rows

/-! ### the law's call, where nothing is being shown -/
section
variable {P : Program} {w : World} {K : PySem.W.Frag} {mg mb : Str → Option Value} {CX : CXT} {k : Nat} {fa a : Addr} {fd : FuncData} {x : Str} {sp : Sp} {s : Shared} {vs : List Value} {ns : List Int}
/-- one run of it: H the script's place alone, or nothing -/
theorem law_runG (inK : K.In s.heap) (G : s.heap.Ns mainGlobals mg) (B : s.heap.Ns builtinsNs mb) (boot : ∀ x : Str, x ≠ "__name__" → mb x = bootBuiltins x) (nl : s.heap.NoLimit) (gens : s.gens = #[])
    (obj : s.heap.get? a = some { cls := .type "list", data := .seq vs.toArray }) (room : Room k callerA)
    (F : ∀ base : Heap, K.In base → base.Ns mainGlobals mg → FnG P w K mg base CX k fa fd [x] sp) (bind : ∀ (s : Shared) (u : Value), BindsTo s fd ⟨[u], []⟩ [(x, u)])
    (out : ∀ H e s', CX [] H s (fun _ _ _ => False) e s' → False) (H : Hp) (only : ∀ b u, H b = some u → b = a ∧ ∃ o us, u = .frz o (.lst us)) (ok : HOk P w H s.heap) (nK : H a ≠ none → K.lookup a = none)
    (promise : sp [.ref a] H (fun v _ => v = .bl true) fun _ _ _ => False) :
    codeAny (model P w) callerA (.call (.ref fa) ⟨[.ref a], []⟩) (fun r s' => r = .ok (.ret (.bool true)) ∧ OldK s.heap s'.heap ∧ s'.os = s.os ∧ AllBare s'.gens) s := by
  -- what is not the script stands in the base
  have free : ∀ {b : Addr} {o : Obj}, s.heap.get? b = some o → (∀ l, o.data ≠ .seq vs.toArray l) → H b = none := fun {b o} e hd => by
    cases q : H b with
    | none => rfl
    | some u =>
      obtain ⟨rfl, _⟩ := only b u q
      rw [obj] at e
      cases e
      exact absurd rfl (hd _)
  have old : ∀ {b : Addr} {m : Str → Option Value}, s.heap.Ns b m → (hidT s.heap H).Ns b m := fun {b m} ⟨o, es, ep, e, d, r⟩ => ⟨o, es, ep, hidT_get e (free e fun l z => by rw [d] at z; cases z), d, r⟩
  have kb : K.In (hidT s.heap H) := fun b o e => hidT_get (inK b o e) (by
    cases q : H b with
    | none => rfl
    | some u =>
      obtain ⟨rfl, _⟩ := only b u q
      rw [nK (by rw [q]; exact Option.some_ne_none u)] at e
      cases e)
  have md : Mod K mg (hidT s.heap H) := ⟨kb, old G, ⟨mb, old B, boot⟩, by obtain ⟨mc, h1, h2⟩ := nl; exact ⟨mc, old h1, h2⟩⟩
  have env : Env0 P w K mg (hidT s.heap H) callerA [] s H := ⟨rfl, md, fun _ _ e => of_hidT e, Nat.le_of_eq (hidT_size _ _), trivial, fun b hb => absurd hb List.not_mem_nil, ok, .of_eq gens⟩
  refine codeAny_mono ((F _ kb (old G)).run callerA rfl [] s H ⟨[.ref a], []⟩ [.ref a] [.ref a] _ _ room env (bind s (.ref a)) (.cons rfl .nil) promise) fun r s' h => ?_
  match r, h with
  | .error e, h => exact (out H e s' h).elim
  | .ok .next, h => exact h.elim
  | .ok .brk, h => exact h.elim
  | .ok .cont, h => exact h.elim
  | .ok (.ret u), h =>
    obtain ⟨v, H', hos, bare, un, ok', rv, hv⟩ := h
    obtain rfl : v = .bl true := hv
    obtain rfl : u = Value.bool true := rv
    refine ⟨rfl, OldK.of_keep fun b o e => ?_, hos, bare⟩
    cases q : H b with
    | none => exact un.keep b o e q (fun z => absurd z List.not_mem_nil) (by simp)
    | some u =>
      obtain ⟨_, ob, us, rfl⟩ := only b u q
      obtain ⟨e1, _⟩ := ok b _ q
      obtain ⟨e2, _⟩ := ok' b _ (un.frzs b ob _ q)
      rw [e] at e1
      cases e1
      exact e2
theorem law_callG (inK : K.In s.heap) (G : s.heap.Ns mainGlobals mg) (B : s.heap.Ns builtinsNs mb) (boot : ∀ x : Str, x ≠ "__name__" → mb x = bootBuiltins x) (nl : s.heap.NoLimit) (gens : s.gens = #[])
    (obj : s.heap.get? a = some { cls := .type "list", data := .seq vs.toArray }) (iv : IntsAre vs ns) (short : ns.length ≤ sizeLine) (room : Room k callerA)
    (F : ∀ base : Heap, K.In base → base.Ns mainGlobals mg → FnG P w K mg base CX k fa fd [x] sp) (bind : ∀ (s : Shared) (u : Value), BindsTo s fd ⟨[u], []⟩ [(x, u)])
    (promise : ∀ H : Hp, SqL K H a (ns.map V.int) → sp [.ref a] H (fun v _ => v = .bl true) fun _ _ _ => False) (out : ∀ H e s', CX [] H s (fun _ _ _ => False) e s' → False) :
    codeAny (model P w) callerA (.call (.ref fa) ⟨[.ref a], []⟩) (fun r s' => r = .ok (.ret (.bool true)) ∧ OldK s.heap s'.heap ∧ s'.os = s.os ∧ AllBare s'.gens) s := by
  have rel := vals_ints iv
  cases hk : K.lookup a with
  | some o =>
    have e := inK a o hk
    rw [obj] at e
    cases e
    exact law_runG inK G B boot nl gens obj room F bind out (fun _ => none) (fun b u z => by cases z) (fun b u z => by cases z) (fun z => absurd rfl z)
      (promise _ (.inr ⟨_, vs.toArray, _, hk, rfl, rfl, rfl, by rw [List.size_toArray, iv.length]; exact short, by simpa using rel⟩))
  | none =>
    have at_ : ∀ {b : Addr} {u : HO}, (if b = a then some (HO.frz { cls := .type "list", data := .seq vs.toArray } (.lst (ns.map V.int))) else none) = some u → b = a ∧ u = .frz { cls := .type "list", data := .seq vs.toArray } (.lst (ns.map V.int)) := fun {b u} z => by
      split at z
      · next e => exact ⟨e, (Option.some.inj z).symm⟩
      · cases z
    refine law_runG inK G B boot nl gens obj room F bind out (fun b => if b = a then some (.frz { cls := .type "list", data := .seq vs.toArray } (.lst (ns.map V.int))) else none) (fun b u z => ?_) (fun b u z => ?_) (fun _ => hk) (promise _ (.inl (.inr ⟨_, if_pos rfl⟩)))
    · obtain ⟨e1, e2⟩ := at_ z
      exact ⟨e1, _, _, e2⟩
    · obtain ⟨e1, e2⟩ := at_ z
      subst e1 e2
      exact ⟨obj, by rw [List.length_map]; exact short, vs, _, rel, obj⟩
end
theorem walk_ofG {l : PySem.W.OpenLaw} {n k : Nat} {q : Program} {loose : List Str} {XP : (Str → Option Value) → Heap → Prop} {YP : World → Heap → Prop} {d : DefRec} {CX : CXT} {x : Str} (hn : l.most = some n) (hn2 : n ≤ sizeLine) (hdf : d.params.defaults = []) (room : Room k callerA)
    (F : ∀ (w : World) (mg : Str → Option Value) (fa : Addr) (h : Heap), YP w h → h.Ns mainGlobals mg → mg d.name = some (.ref fa) →
      ∃ (K : PySem.W.Frag) (fd : FuncData) (sp : Sp), K.In h ∧ (∀ (s : Shared) (u : Value), BindsTo s fd ⟨[u], []⟩ [(x, u)]) ∧ (∀ (H : Hp) (a : Addr) (ns : List Int), ns.length ≤ n → SqL K H a (ns.map V.int) → sp [.ref a] H (fun v _ => v = .bl true) fun _ _ _ => False) ∧
        ∀ base : Heap, K.In base → base.Ns mainGlobals mg → FnG l.prog w K mg base CX k fa fd [x] sp)
    (out : ∀ (H : Hp) (s : Shared) (e : Value) (s' : Shared), CX [] H s (fun _ _ _ => False) e s' → False) : PySem.W.WalkO q loose XP YP l.row.toRowW d [] (fun f vs => PySem.call f vs) :=
  Att.attach_call hn hdf fun w _ s1 mg _ fa _ _ _ _ a _ ns G Y _ _ _ hmg obj iv hlen gens => by
    obtain ⟨K, fd, sp, inK, bind, promise, run⟩ := F w mg fa _ Y G.T.g hmg
    exact law_callG inK G.T.g G.T.b G.T.builtins G.T.nolimit gens obj iv (Nat.le_trans hlen hn2) room run bind (fun H hS => promise H a ns hlen hS) fun H e s' => out H s1 e s'
end TX

end

section
set_option Elab.async false
set_option linter.all false
set_option maxRecDepth 100000
set_option maxHeartbeats 2000000
namespace TX
open PySem L2 Evl PyProof.Rows

/-! ### repr of a list or a tuple, where nothing is being shown -/
def rRepr (K : PySem.W.Frag) : List V → Hp → VK → Prop := fun xs H Q => ∃ (a : Addr) (d : PyData), xs = [.ref a] ∧ Dp K H (.ref a) d ∧ d.canLay0 = true ∧ d.showable = true ∧ d.depth ≤ 20 ∧ d.shown.length ≤ sizeLine ∧ Q (.str d.shown) H
theorem call_repr {X : Cx} (gd : X.A.guards = some []) (hu : X.A.units + 64 < cLine) : CallR X (.builtin "repr") (rRepr X.K) := by
  intro pins s σ H xs us Q I r h
  obtain ⟨a, d, rfl, hd, h1, h2, h3, h4, q⟩ := h
  obtain ⟨u, rfl, ru⟩ := vals1 r
  obtain ⟨as, rd⟩ := Dp.reads I d _ u hd ru
  obtain rfl : u = .ref a := ru
  exact repr_of_reads' rd h2 (PyData.noDict_hsm (PyData.hasDict_of_canLay d h1)) gd (by omega) (fun _ _ e => e) (fun h' t tk k => ⟨.str d.shown, H, I.kept k, ⟨t, rfl⟩, q⟩) h4
def D.isSeq : D → Bool
  | .lst _ => true
  | .tup _ => true
  | _ => false
def fRepr : D → Option R1 := fun d => if d.isSeq = true ∧ d.toP.canLay0 = true ∧ d.toP.showable = true ∧ d.toP.depth ≤ 20 ∧ d.toP.shown.length ≤ sizeLine then some (.str d.toP.shown, false) else none
theorem cb_repr {K : PySem.W.Frag} : Cb1 K (rRepr K) fRepr := by
  intro Xs st σ H x dx z Q rel hx hz hq
  unfold fRepr at hz
  split at hz
  · next hc =>
    cases hz
    obtain ⟨h0, h1, h2, h3, h4⟩ := hc
    have hd := bq_full hx
    have ha : ∃ a, x = .ref a := by
      revert h0 hd
      cases dx with
      | lst ds => intro _ hd; cases hd; exact ⟨_, rfl⟩
      | tup ds => intro _ hd; cases hd; exact ⟨_, rfl⟩
      | _ => intro h0; cases h0
    obtain ⟨a, rfl⟩ := ha
    exact ⟨a, dx.toP, rfl, hd.dp h1, h1, h2, h3, h4, hq _ H (Post.refl rel) (.old (.str _))⟩
  · cases hz
end TX
namespace TX
open PySem L2 Evl PyProof.Rows
/-! ### row.index(e), row a named list -/
def idxAt (d z : D) : Option Nat := match d with
  | .lst _ => (match d.toP with
    | .list ps => if SeqAt.shaped (.list ps) && SeqAt.shaped z.toP then ps.findIdx? fun q => PyData.eqv q z.toP else none
    | _ => none)
  | _ => none
def eIndexV (i : Nat) (e : EvE) : EvE := fun st => match slD st[i]? with
  | some (.lst _) => (e st).bind fun z st1 => match slD st1[i]? with
    | none => .no
    | some d => match idxAt d z.1 with
      | some j => .ok (.int (j : Nat), false) st1
      | none => .no
  | _ => .no
theorem x_indexV {X : Cx} {w : Wi} (i : Nat) {x : Str} {e : Expr} {ev : EvE} {np ap cp : Pos} (hu : X.A.units + 65 < cLine) (he : PE X e (tE X.K w ev)) (hN : X.N[i]? = some x := by rfl) (hv : Vis X.env.scope x := by first | exact Or.inl rfl | exact Or.inr (Or.inl rfl) | exact Or.inr (Or.inr rfl))
    (hd : (x == ("__debug__" : Str)) = false := by decide) (hcd : (x == ("__classdict__" : Str)) = false := by decide)
    (hst : starEach [e] X.env = (false, eval e X.env) :: starEach [] X.env := by rfl)
    (hfew : ((backTo cp (starEach [e] X.env)).all (fun x => !x.1) && (backToKw cp (keywordEach [] X.env)).all (fun x => x.1.isSome) && decide ([e].length + ([] : List Keyword).length + (if ([] : List Keyword).isEmpty then 0 else 1) < 30)) = true := by rfl)
    (hline : (ap.endLine == cp.line) = true := by rfl) :
    PE X (.Call (.Attribute (.Name x np) "index" ap) [e] [] cp) (tE X.K w (eIndexV i ev)) :=
  PE.of (pe_bm PySem.F.plainAttrs_list PySem.F.slot_list_index PySem.F.type_list_index (mt_indexD hu) (pe_var hN hv hd hcd) (pa_cons he pa_nil hst) (by rfl) hfew hline hst) fun σ H Q h => by
    obtain ⟨Xs, st, rel, h⟩ := h
    unfold eIndexV at h
    split at h
    · next ds0 e0 =>
      obtain ⟨v, ev, hv⟩ := slD_at rel e0
      cases bq_full hv with
      | lst q1 q2 =>
        refine ⟨_, ev, .inl ⟨rfl, _, SqL.of q1⟩, tE_seq rel h fun y H1 z st1 p1 v1 h1 => ?_⟩
        split at h1
        · exact h1.elim
        · next d e1 =>
          obtain ⟨v', ev', hv'⟩ := slD_at p1.rel e1
          rw [ev] at ev'
          cases ev'
          split at h1
          · next j ej =>
            have full := bq_full hv'
            unfold idxAt at ej
            split at ej
            · next ds =>
              split at ej
              · next ps eps =>
                split at ej
                · next hs =>
                  rw [Bool.and_eq_true] at hs
                  obtain ⟨hj, hj1, hj2⟩ := List.findIdx?_eq_some_iff_getElem.mp ej
                  have hdp := full.dp (by rw [eps]; exact SeqAt.canLay_of_shaped hs.1)
                  rw [eps] at hdp
                  refine ⟨_, y, z.1.toP, ps, j, ps[j], rfl, rfl, hdp, (dp_mono msk_ex v1.dp).dp (SeqAt.canLay_of_shaped hs.2), hs.1, hs.2, List.getElem?_eq_getElem hj, hj1, fun m z' hm e => ?_, h1 _ H1 p1 (.old (.int _))⟩
                  obtain ⟨hm2, e2⟩ := List.getElem?_eq_some_iff.mp e
                  have := hj2 m hm
                  rw [← e2]
                  simpa using this
                · cases ej
              · cases ej
            · cases ej
          · exact h1.elim
    · exact h.elim
end TX

end

section
set_option Elab.async false
set_option linter.all false
set_option maxRecDepth 100000
set_option maxHeartbeats 2000000
/-! ### an own error made by name: C(value=v) -/
namespace PySem
namespace TellX
open PySem.W PySem.Calls PyProof.Rows PySem.HandSPX
/-- the one argument, by its name -/
abbrev vKw (v : Value) : List (Str × Value) := [("value", v)]
section
variable {prog : Program} {w : World} {A : Around} {E : Value → Shared → Prop} {R : Result → Shared → Prop} {s : Shared} {K : Frag} {mg : Str → Option Value} {C fI : Addr} {v : Value}
variable {nmC qn : Str} {nsA : Addr} {bases tail : List Value} {snm : List Str} {subs : List Value} {abs : Bool} {colB : Option Bool} {dct : Option Addr} {j0 j1 j2 j3 j5 : Option Value}
theorem kw_check {Q : Unit → Shared → Prop} (ht : refsVE tail = true) (hC : s.heap.get? C = some (excClassObj nmC qn C nsA bases tail true snm subs abs colB dct j0 j1 j2 j3 j5 "ValueError.__new__")) (hq : Q () s) :
    wpAny (model prog w) A (checkBuiltinCall "ValueError.__new__" ⟨[.ref C], vKw v⟩) Q E s := by
  obtain ⟨hp, g, d, t, os⟩ := s
  have FB := F.excBase_ValueError
  have own : (Value.ref C :: tail).contains (.type "ValueError") = true := by rw [List.contains_cons, refsVE_contains _ tail ht, FB.hasB, Bool.or_true]
  have ns := FB.noStar
  simp only [checkBuiltinCall, FB.newKind, FB.newSplit, FB.newRow]
  repeat (first
    | refine wpAny_loadPart_at hC ?_
    | (refine wpAny_isSubtype_exc hC ?_; rw [own])
    | refine wpAny_staticBase_exc hC ?_
    | refine wpAny_madeBy_exc hC ?_
    | simp only [bne_self_eq_false, Bool.false_eq_true, if_false]
    | wp_step)
  exact hq
theorem kw_new (ht : refsVE tail = true) (hC : s.heap.get? C = some (excClassObj nmC qn C nsA bases tail true snm subs abs colB dct j0 j1 j2 j3 j5 "ValueError.__new__"))
    (hq : R (.ok (.ret (.ref (s.heap.objs.size + 1)))) { s with heap := (s.heap.push (kdv_tup [])).push (excO C s.heap.objs.size) }) : codeAny (model prog w) A (.builtin "ValueError.__new__" ⟨[.ref C], vKw v⟩) R s := by
  obtain ⟨hp, g, d, t, os⟩ := s
  have FB := F.excBase_ValueError
  have ends := FB.ends
  have own : (Value.ref C :: tail).contains (.type "ValueError") = true := by rw [List.contains_cons, refsVE_contains _ tail ht, FB.hasB, Bool.or_true]
  have ownA : (Value.ref C :: tail).contains (.type "AttributeError") = false := by rw [List.contains_cons, refsVE_contains _ tail ht, FB.noAttr]; rfl
  have ownN : (Value.ref C :: tail).contains (.type "NameError") = false := by rw [List.contains_cons, refsVE_contains _ tail ht, FB.noName]; rfl
  refine codeAny_builtinAt FB.entry ?_
  unfold Builtin.«BaseException.__new__»
  refine wpAt_bind ?_
  show wpAt _ _ _ (stack >>= _) _ _ _
  refine wpAt_bind (wpAt_stack fun pz bz => wpAt_of_wpAny ?_)
  wp_walk
  refine wpAt_of_wpAny ?_
  rw [FB.owner]
  repeat (first
    | with_reducible refine wpAny_madeHere_exc FB.canon hC ?_
    | with_reducible refine wpAny_loadPart_at hC ?_
    | (with_reducible refine wpAny_isSubtype_exc hC ?_; first | rw [own] | rw [ownA] | rw [ownN])
    | wp_step)
  show R _ _
  rw [Heap.size_push]
  exact hq
theorem kw_type {Q : Fin → Shared → Prop} (ht : refsVE tail = true) (hC : s.heap.get? C = some (excClassObj nmC qn C nsA bases tail true snm subs abs colB dct j0 j1 j2 j3 j5 "ValueError.__new__"))
    (hi : Looks (model prog w) s.heap (typeLookup (.ref C) "__init__") (some (.ref fI))) (hb : ∀ self, Looks (model prog w) s.heap (bindSpecial (.ref fI) self) (.ref fI, [self]))
    (hq : codeAny (model prog w) A (.call (.ref fI) ⟨[.ref (s.heap.objs.size + 1)], vKw v⟩) (fun r s' => match r with
      | .ok (.ret z) => z = .none ∧ Q (.done (.ret (.ref (s.heap.objs.size + 1)))) s'
      | .ok _ => False
      | .error e => E e s') { s with heap := (s.heap.push (kdv_tup [])).push (excO C s.heap.objs.size) }) :
    wpAny (model prog w) A (Builtin.«type.__call__» ⟨[.ref C], vKw v⟩) Q E s := by
  obtain ⟨hp, g, d, t, os⟩ := s
  have FB := F.excBase_ValueError
  repeat (first
    | with_reducible refine wpAny_loadPart_at hC ?_
    | with_reducible refine wpAny_madeBy_exc hC ?_
    | wp_step)
  refine codeAny_call_builtin_code (Code.quiet_builtin _ FB.quiet) (kw_check ht hC ?_)
  refine kw_new ht hC ?_
  show wpAny _ _ _ _ _ _
  have kk : ∀ b o, hp.get? b = some o → ((hp.push (kdv_tup [])).push (excO C hp.objs.size)).get? b = some o := fun b o e => Heap.get?_push_of_some _ (Heap.get?_push_of_some _ e)
  have hC1 := kk _ _ hC
  have got : ((hp.push (kdv_tup [])).push (excO C hp.objs.size)).get? (hp.objs.size + 1) = some (excO C hp.objs.size) := by heap_get
  have cC : (Value.ref C :: tail).contains (.ref C) = true := by simp
  have i1 := hi.keeps kk
  have b1 := (hb (.ref (hp.objs.size + 1))).keeps kk
  unfold isInstance
  repeat (first
    | with_reducible refine wpAny_loadPart_at got ?_
    | (with_reducible refine wpAny_isSubtype_exc hC1 ?_; rw [cC])
    | wp_step)
  show wpAny _ _ (typeLookup (.ref C) _) _ _ _
  refine i1.at ?_
  refine wpAny_holding (wpAny_bind (b1.at ?_))
  refine wpAny_bind (wpAny_call (codeAny_mono hq fun r s' z => ?_))
  rcases r with e | (y | _ | _ | _) <;> first | exact z | exact z.elim | skip
  obtain ⟨rfl, z⟩ := z
  first
    | exact wpAny_pure (wpAny_pure z)
    | (wp_walk; exact z)
theorem kw_call (ht : refsVE tail = true) (hC : s.heap.get? C = some (excClassObj nmC qn C nsA bases tail true snm subs abs colB dct j0 j1 j2 j3 j5 "ValueError.__new__"))
    (hi : Looks (model prog w) s.heap (typeLookup (.ref C) "__init__") (some (.ref fI))) (hb : ∀ self, Looks (model prog w) s.heap (bindSpecial (.ref fI) self) (.ref fI, [self]))
    (hq : codeAny (model prog w) (A.under (.builtin "type.__call__" ⟨[.ref C], vKw v⟩)) (.call (.ref fI) ⟨[.ref (s.heap.objs.size + 1)], vKw v⟩) (InitBack (s.heap.objs.size + 1) R) { s with heap := (s.heap.push (kdv_tup [])).push (excO C s.heap.objs.size) }) :
    codeAny (model prog w) A (.call (.ref C) ⟨[], vKw v⟩) R s := by
  obtain ⟨hp, g, d, t, os⟩ := s
  have f1 := tc_lookup
  have f2 := tc_bind (.ref C)
  have hT : (⟨hp, g, d, t, os⟩ : Shared).TypeIs (.ref C) "type" := ⟨_, hC, rfl⟩
  refine codeAny_of_tree ?_
  show wpAny _ _ (callAny (.ref C) _) _ _ _
  repeat (any_goals (first
    | assumption
    | with_reducible refine wpAny_loadPart_at hC ?_
    | wp_step))
  refine ⟨rfl, ?_⟩
  refine codeAny_call_builtin_at (Code.quiet_builtin _ (by decide +kernel)) entry_typeCall (wpAny_check_type_call_sub hC (kw_type ht hC hi hb ?_))
  refine codeAny_mono hq fun r s' z => ?_
  rcases r with e | (y | _ | _ | _) <;> exact z
theorem tell_initK (T : TellTxt K C fI) {x t0 : Addr} (X : K.In s.heap) (hlim : s.heap.NoLimit) (hx : s.heap.get? x = some (excO C t0)) (hnx : K.lookup x = none) (hroom : A.depth < recursionLimit)
    (hq : ∀ h' tk dx, InitEnd s.heap h' x C dx t0 v → R (.ok (.ret .none)) { s with heap := h', toks := tk }) :
    codeAny (model prog w) A (.call (.ref fI) ⟨[.ref x], vKw v⟩) R s := by
  obtain ⟨oc, od, kV, doc, pm, an, cdv, ct, osl, p1, p2, q1, q2, q3, q4, ho, hcd⟩ := T.fn
  obtain ⟨nm, q, N, bs, bm, sn, sub, ab, col, dd, k0, k1, k2, k3, k5, hC, hbm⟩ := T.cls
  have hcl : clsIn K C = some { name := nm, bases := bs, mro := .ref C :: bm, ns := N, qualname := q, hasDict := true, slotNames := sn, subclasses := sub, abstract := ab, collection := col, hasDel := false } := by unfold clsIn; rw [hC] <;> rfl
  refine Att.call_fn (binds := [("self", .ref x), ("value", v)]) X hlim ho hcd hroom (BindsTo.of_eq (by first | rfl | with_unfolding_all rfl)) (by first | rfl | decide | with_unfolding_all rfl) (fun s₁ IC => ?_) rfl rfl rfl
  obtain ⟨h₁, tk₁, rfl⟩ := IC.toInCall.same
  have k : ∀ b o, s.heap.get? b = some o → h₁.get? b = some o := IC.toInCall.keep
  have hn := IC.toInCall.ns
  have X₁ : K.In h₁ := X.keeps k
  have hx₁ := k _ _ hx
  show wpAny _ _ (execs _ _) _ _ _
  refine wpAny_execs_cons (plainObj_wpAny_Assign_Attribute ?_)
  refine ldC (v := v) hn (by first | rfl | with_unfolding_all rfl | kernel_rfl) (ldC (v := .ref x) hn (by first | rfl | with_unfolding_all rfl | kernel_rfl) ?_)
  refine set_plain X₁ (ox := excO C t0) (od := none) ⟨hx₁, rfl, rfl, trivial⟩ T.sa ?_
  refine exc_osa X₁ hx₁ hcl (show refsVE (.ref C :: bm) = true from hbm) rfl T.noN (fun h₃ tk₃ dx k₃ dn dne hx₃ hn₃ => ?_)
  show wpAny _ _ (execs _ _) _ _ _
  have z : s.heap.objs.size < h₁.objs.size := hn.lt
  exact wpAny_execs_nil (hq h₃ tk₃ dx ⟨fun b o hb e => k₃ b o hb (k b o e), hx₃, Nat.le_of_lt (Nat.lt_of_lt_of_le z dn), dne, hn₃⟩)
theorem tell_madeK (T : TellTxt K C fI) (X : K.In s.heap) (hlim : s.heap.NoLimit) (hroom : A.depth + 1 < recursionLimit)
    (hq : ∀ h' tk e d, OwnMade s.heap h' e C d v → R (.ok (.ret (.ref e))) { s with heap := h', toks := tk }) :
    codeAny (model prog w) A (.call (.ref C) ⟨[], vKw v⟩) R s := by
  obtain ⟨nm, q, N, bs, bm, sn, sub, ab, col, dd, k0, k1, k2, k3, k5, hC, hbm⟩ := T.cls
  obtain ⟨hp, g, dr, tk, os⟩ := s
  have k : ∀ b o, hp.get? b = some o → ((hp.push (kdv_tup [])).push (excO C hp.objs.size)).get? b = some o := fun b o e => Heap.get?_push_of_some _ (Heap.get?_push_of_some _ e)
  have hget : ((hp.push (kdv_tup [])).push (excO C hp.objs.size)).get? (hp.objs.size + 1) = some (excO C hp.objs.size) := by heap_get
  have hnx : K.lookup (hp.objs.size + 1) = none := by
    cases e : K.lookup (hp.objs.size + 1) with
    | none => rfl
    | some o =>
      have z : hp.get? (hp.objs.size + 1) = some o := X _ _ e
      exact absurd (Nat.lt_of_succ_lt (Heap.lt_size z)) (Nat.lt_irrefl _)
  refine kw_call (s := ⟨hp, g, dr, tk, os⟩) hbm (X _ _ hC) (looks_findIn X T.iC) (fun self => bind_fn X self T.tC) ?_
  refine tell_initK (s := ⟨(hp.push (kdv_tup [])).push (excO C hp.objs.size), g, dr, tk, os⟩) T (X.keeps k) (hlim.keeps k) hget hnx ?_ fun h' tk' dx ⟨k', hx, dn, dne, hns⟩ => ?_
  · show A.depth + 1 < recursionLimit
    exact hroom
  · have old : ∀ b o, hp.get? b = some o → h'.get? b = some o := fun b o e => k' b o (Nat.ne_of_lt (Nat.lt_succ_of_lt (Heap.lt_size e))) (k b o e)
    have z : hp.objs.size + 1 + 1 ≤ dx := by
      first
        | (simpa only [Heap.size_push] using dn)
        | exact dn
        | (have q := dn; rw [Heap.size_push, Heap.size_push] at q; exact q)
    exact ⟨rfl, hq h' tk' (hp.objs.size + 1) dx ⟨old, Nat.le_succ _, ⟨_, _, hx, rfl, rfl, rfl, rfl⟩, Nat.le_trans (Nat.le_trans (Nat.le_succ _) (Nat.le_succ _)) z, dne, hns⟩⟩
end
end TellX
end PySem
namespace L2
open PySem PySem.Spec PyProof.Rows
section
variable {X : Cx} {C fI : Addr}
/-- what a made error leaves, seen from outside -/
theorem mk_done {pins : List (Addr × Obj)} {σ : L2.St} {H1 : Hp} {s1 : Shared} {v : V} {v' : Value} {Q : Value → Option Addr → Hp → Prop} (T : PySem.TellX.TellTxt X.K C fI) (I1 : Inv X pins σ H1 s1) (rv : RelV v v') (q1 : ∀ d, H1 d = none → Q (.ref C) (some d) (upd H1 d (.xd [(("value" : Str), v)])))
    {h' : Heap} {tk' : Nat} {e d : Addr} (M : PySem.TellX.OwnMade s1.heap h' e C d v') : MkP X pins σ Q (.ref e) { s1 with heap := h', toks := tk' } := by
  obtain ⟨hp, g, dr, tk, os⟩ := s1
  obtain ⟨oe, fv, hoe, hc, hd, hdat, h1⟩ := M.obj
  have hns := M.ns
  obtain ⟨G', g1, g2⟩ := restrict h' fun b => decide (b ≠ e)
  have gk : ∀ b, b ≠ e → G'.get? b = h'.get? b := fun b hb => g1 b (decide_eq_true hb)
  have ge : G'.get? e = none := g2 e (by simp)
  have old : ∀ b o, hp.get? b = some o → G'.get? b = some o := fun b o q => (gk b (Nat.ne_of_lt (Nat.lt_of_lt_of_le (Heap.lt_size q) M.new))).trans (M.keep b o q)
  have ob : ObjOk X.prog X.w (upd H1 d (.xd [(("value" : Str), v)])) G' d (.xd [(("value" : Str), v)]) := ⟨_, hns.at (fun o q => (gk d M.dne).trans q), fun f => relO_tell rv f⟩
  have J : Inv X pins σ (upd H1 d (.xd [(("value" : Str), v)])) ⟨G', g, dr, tk', os⟩ := I1.laid (t' := tk') old M.dbig ob
  refine ⟨e, oe, fv, ⟨G', g, dr, tk', os⟩, _, .ref C, some d, rfl, J, fun b o q => ?_, ge, hoe, ⟨hc, hd⟩, hdat, h1, ?_, rfl, I1.bare, raises_own T.exC T.tyC, q1 d (I1.hok.fresh M.dbig)⟩
  · by_cases hb : b = e
    · have q' : G'.get? b = some o := q
      rw [hb, ge] at q'; cases q'
    · exact (gk b hb).symm.trans q
  · rw [upd_ne (Ne.symm M.dne)]
    exact I1.hok.fresh M.new
theorem pmk_tellK {a : Expr} {ta : TA} {nm : Str} {p pos kpos : Pos} {k : Nat} (T : PySem.TellX.TellTxt X.K C fI) (hr : Room k X.A) (ha : PK X [⟨some "value", a, kpos⟩] ta) (gC : X.mg nm = some (.ref C)) (hg : Gl X nm := by rfl) (hdb : (nm == ("__debug__" : Str)) = false := by decide)
    (hall : (backToKw pos (keywordEach [⟨some "value", a, kpos⟩] X.env)).all (·.1.isSome) = true := by rfl) (hks : (backToKw pos (keywordEach [⟨some "value", a, kpos⟩] X.env)).filterMap (·.1) = [("value" : Str)] := by rfl)
    (hpl : ((backTo pos (starEach [] X.env)).any (·.1) || (backToKw pos (keywordEach [⟨some "value", a, kpos⟩] X.env)).any (·.1.isNone)) = false := by rfl) : PMk X (.Call (.Name nm p) [] [⟨some "value", a, kpos⟩] pos) (tMkTell C ta) := by
  intro pins s σ H Q I h
  refine wpAny_Call_Name_kw (ld_glob I hg gC ?_ hdb)
  refine PySem.W.callWith_KW0 (h₀ := X.base) I.ok.mod.kin T.kC hall (thn (ha.run pos pins s σ H _ I h) fun us s1 hh => ?_) hpl
  obtain ⟨vs, H1, I1, r1, v, ev, q1⟩ := hh
  subst ev
  refine ⟨I1.kIn, ?_⟩
  rw [hks]
  cases r1 with
  | cons rv rn =>
    rename_i v' us'
    cases rn
    show wpAny _ _ (call (.ref C) [] [(("value" : Str), v')]) _ _ _
    have hlim := I1.nolimit
    refine wpAny_call (PySem.TellX.tell_madeK T I1.kIn hlim (by have := hr.dp; omega) fun h' tk' e d M => ?_)
    exact mk_done T I1 rv q1 M
end
end L2
namespace TX
open PySem L2 Evl PyProof.Rows
section
variable {X : Cx} {w : Wi} {P : List Nat} {pos pos2 p kpos : Pos} {nm : Str} {k : Nat} {fI : Addr}
/-- raise C(value=e) -/
theorem xs_raiseK (c : Nat) {e : Expr} {ev : EvE} (T : PySem.TellX.TellTxt X.K (w.cl c) fI) (gC : X.mg nm = some (.ref (w.cl c))) (hr : Room k X.A) (hc : X.calm = true) (tk : Takes X w.W) (he : PE X e (tE X.K w ev)) (hg : Gl X nm := by rfl) (hdb : (nm == ("__debug__" : Str)) = false := by decide)
    (hall : (backToKw pos (keywordEach [⟨some "value", e, kpos⟩] X.env)).all (·.1.isSome) = true := by rfl) (hks : (backToKw pos (keywordEach [⟨some "value", e, kpos⟩] X.env)).filterMap (·.1) = [("value" : Str)] := by rfl)
    (hpl : ((backTo pos (starEach [] X.env)).any (·.1) || (backToKw pos (keywordEach [⟨some "value", e, kpos⟩] X.env)).any (·.1.isNone)) = false := by rfl) : PS X (.Raise (some (.Call (.Name nm p) [] [⟨some "value", e, kpos⟩] pos)) none pos2) (tS X.K w P (sRaise c ev)) :=
  PS.of (ps_raise hc tk (pmk_tellK T hr (pk_cons he pk_nil) gC hg hdb hall hks hpl)) fun Dn σ H h => by
    obtain ⟨Xs, B, st, r, h⟩ := h
    show tE X.K w ev σ H _
    refine tE_S r h fun v H1 z st1 p1 p v1 h1 => ⟨v, rfl, fun d hd => ?_⟩
    have q := rel_new (o := .xd [(fV, v)]) p.rel.rel hd
    exact h1 d v σ _ (p.trans (.of p.rel q)) (by show msk _ _ d = _; rw [msk_out (rel_hid p.rel.rel hd), upd_same]) (dp_mono q.ex v1.dp)
end
/-! ### isinstance of a caught error -/
def rIsc (K : PySem.W.Frag) : List V → Hp → VK → Prop := fun xs H Q => ∃ (a C dx : Addr) (y c : V) (u : Value) (b : Bool), xs = [.ref a, c] ∧ ClsV c u ∧ GoodC K C ∧ H a = some (xo a (.ref C) (some dx)) ∧ H dx = some (.xd [(fV, y)]) ∧ PySem.W.kitOne K (.ref C) u = some b ∧ Q (.bl b) H
theorem call_isc {X : Cx} : CallR X (.builtin "isinstance") (rIsc X.K) := by
  intro pins s σ H xs us Q I r h
  obtain ⟨a, C, dx, y, c, u, b, rfl, k, g, ea, ed, e, q⟩ := h
  obtain ⟨u1, u2, rfl, r1, r2⟩ := vals2 r
  have e2 := k.eq r2
  subst e2
  obtain rfl : u1 = Value.ref a := r1
  obtain ⟨⟨oe, vs, ho, hoc, hod, hof⟩, _, _⟩ := (show ObjOk X.prog X.w H s.heap a (xo a (.ref C) (some dx)) from I.hok a _ ea)
  obtain ⟨mA, hns, hrel⟩ := (show ObjOk X.prog X.w H s.heap dx (.xd [(fV, y)]) from I.hok dx _ ed)
  obtain ⟨od, hdd, hl⟩ := lookIn_ns hns
  have J : PySem.W.InstAt s.heap a oe C (some od) := ⟨ho, hoc, by unfold PySem.W.notCls; rw [hof] <;> rfl, by rw [hod]; exact hdd⟩
  exact PySem.W.kia_one (PySem.W.kitx_exc g.clC g.ga g.gg g.exC g.caC g.cnC g.ctC g.cmC) I.kIn J e (fun z => nomatch z) fun tk => ⟨.bl b, H, I.tok tk, rfl, q⟩
/-- m: which of the first n classes are of the asked one -/
def fIsc (cl : Nat → Addr) (n : Nat) (m : Nat → Bool) : D → Option R1 := fun d => match d with
  | .exc C _ => match (List.range n).find? (fun c => decide (cl c = C)) with
    | some c => some (.bl (m c), false)
    | none => none
  | _ => none
section
variable {X : Cx} {w : Wi} {n : Nat} {m : Nat → Bool} {p pos tpos : Pos} {a b : Expr} {ea : EvE} {cv : V} {u : Value}
theorem x_isc (hv : ClsV cv u) (hb : PE X b (tC cv)) (hk : ∀ c, c < n → PySem.W.kitOne X.K (.ref (w.cl c)) u = some (m c)) (hm : X.mg "isinstance" = none) (ha : PE X a (tE X.K w ea)) (hg : Gl X "isinstance" := by rfl)
    (he : starEach [a, b] X.env = (false, eval a X.env) :: starEach [b] X.env := by rfl) (he2 : starEach [b] X.env = (false, eval b X.env) :: starEach [] X.env := by rfl) (hpl : (backTo pos (starEach [b] X.env)).any (·.1) = false := by rfl) : PE X (.Call (.Name "isinstance" p) [a, b] [] pos) (tE X.K w (eUn (fIsc w.cl n m) ea)) :=
  PE.of (pe_callB call_isc hg hm (by decide +kernel) (pa_cons ha (pa_cons hb pa_nil he2) he) (by decide) (by decide) he hpl) fun σ H Q h => by
    obtain ⟨Xs, st, rel, h⟩ := h
    refine tE_seq rel h fun x H1 rx st1 p1 v1 h1 => ?_
    have dp := v1.dp
    revert h1 dp
    cases rx.1 with
    | exc C d =>
      intro h1 dp
      unfold fIsc at h1
      dsimp only at h1
      split at h1
      · next z e =>
        split at e
        · next c ec =>
          have e1 : decide (w.cl c = C) = true := List.find?_some (p := fun i => decide (w.cl i = C)) ec
          have e2 := List.mem_range.mp (List.mem_of_find?_eq_some ec)
          have e3 : w.cl c = C := of_decide_eq_true e1
          cases e
          cases dp with
          | exc g q1 q2 q3 => exact ⟨_, C, _, _, cv, u, m c, rfl, hv, g, msk_ex _ _ q1, msk_ex _ _ q2, by rw [← e3]; exact hk c e2, h1 _ H1 p1 (.old (.bl _))⟩
        · cases e
      · exact h1.elim
    | _ => intro h1; exact h1.elim
theorem cls_own {C : Addr} {nm : Str} (hm : X.mg nm = some (.ref C)) (hg : Gl X nm := by rfl) (hd : (nm == ("__debug__" : Str)) = false := by decide) : PE X (.Name nm tpos) (tC (.ref C)) := pe_glob hg hm (show RelV (.ref C) (.ref C) from rfl) hd
theorem cls_ty {T : String} {nm : Str} (hm : X.mg nm = none) (hv : bootBuiltins nm = some (.type T)) (hg : Gl X nm := by rfl) (hn : nm ≠ "__name__" := by decide) (hd : (nm == ("__debug__" : Str)) = false := by decide) : PE X (.Name nm tpos) (tC (.ty T)) := pe_bltn hg hm hv rfl hn hd
end
theorem cl_inj {K : PySem.W.Frag} {cl : Nat → Addr} {mt : Nat → Nat → Bool} {n : Nat} (E : ErrK K cl mt n) (h : ∀ c, c < n → ∀ c', c' < n → (∀ k, k < n → mt c k = mt c' k) → c = c') : ∀ c c', c < n → c' < n → cl c = cl c' → c = c' := fun c c' hc hc' e => h c hc c' hc' fun k hk => by
  have h1 := E.ex c k hc hk
  have h2 := E.ex c' k hc' hk
  rw [e, h2] at h1
  exact (Option.some.inj h1).symm
/-! ### C(e).value, the error made here -/
def fSelf : D → Option R1 := fun d => some (d, false)
section
variable {X : Cx} {w : Wi} {p pos apos : Pos} {nm : Str} {k : Nat} {C fI : Addr}
theorem x_newval {a : Expr} {ea : EvE} (T : PySem.TellX.TellTxt X.K C fI) (gC : X.mg nm = some (.ref C)) (hr : Room k X.A) (ha : PE X a (tE X.K w ea)) (hg : Gl X nm := by rfl) (hdb : (nm == ("__debug__" : Str)) = false := by decide)
    (he : starEach (a :: []) X.env = (false, eval a X.env) :: starEach [] X.env := by rfl) (hpl : (backTo pos (starEach [] X.env)).any (·.1) = false := by rfl)
    (hb : attributeBase (.Call (.Name nm p) [a] [] pos) fV X.env (eval (.Call (.Name nm p) [a] [] pos) X.env) = eval (.Call (.Name nm p) [a] [] pos) X.env := by rfl) :
    PE X (.Attribute (.Call (.Name nm p) [a] [] pos) fV apos) (tE X.K w (eUn fSelf ea)) := by
  refine ⟨fun pins s σ H Q I h => ?_⟩
  obtain ⟨Xs, st, rel, h⟩ := h
  have h2 : tE X.K w ea σ H Q := tE_seq rel h fun x H1 rx st1 p1 v1 h1 => h1 x H1 p1 (.old v1.dp)
  refine attr_of hb (wpAny_Call_Name_kw (ld_glob I hg gC ?_ hdb))
  refine PySem.W.callWith_K (h₀ := X.base) I.ok.mod.kin T.kC (thn ((pa_cons ha pa_nil he).run pos pins s σ H (fun vs H1 => ∃ v, vs = [v] ∧ Q v H1) I ?_) fun us s1 hh => ?_) he hpl
  · obtain ⟨Ys, st', rel', h'⟩ := h2
    exact ⟨Ys, st', rel', h'.mono (fun z s g v H' p q => ⟨v, rfl, g v H' p q⟩) fun _ _ _ z => z⟩
  · obtain ⟨vs, H1, I1, r1, v, ev, q1⟩ := hh
    subst ev
    refine ⟨I1.kIn, ?_⟩
    cases r1 with
    | cons rv rn =>
      rename_i v' us'
      cases rn
      show wpAny _ _ (call (.ref C) [v']) _ _ _
      have hlim := I1.nolimit
      obtain ⟨hp, g, dr, tk, os⟩ := s1
      refine wpAny_call (PySem.TellX.tell_made T I1.kIn hlim (by have := hr.dp; omega) fun h' tk' e d M => ?_)
      obtain ⟨oe, fv, hoe, hc, hd, hdat, h1⟩ := M.obj
      obtain ⟨od, hdd, hl⟩ := lookIn_ns M.ns
      have I2 : Inv X pins σ H1 ⟨h', g, dr, tk', os⟩ := I1.kept M.keep
      have J : PySem.W.InstAt h' e oe C (some od) := ⟨hoe, hc, by unfold PySem.W.notCls; rw [hdat] <;> rfl, by rw [hd]; exact hdd⟩
      exact HandSPX.exc_get I2.kIn J T.ga T.gg T.exC (PySem.W.findObj_own T.hdC T.noN rfl ((hl _).trans (congrArg some (if_pos rfl)))) (handed_of rv) ⟨v, H1, I2.tok _, rv, q1⟩
end
end TX

end

section
set_option Elab.async false
set_option linter.all false
set_option maxRecDepth 100000
set_option maxHeartbeats 2000000
/-! runs, step by step: each rule tells what a piece of a run gives from what its parts give -/
namespace TX
open PySem L2
section
variable {st st1 st2 st3 : List Sl} {a b e : EvE} {ea er : EvA} {t u : EvT} {x y z : R1} {d : D} {ds es : List D} {i j : Nat} {o : SO}
theorem eC_r : eC d st = .ok (d, false) st := rfl
theorem eVar_r (h : st[i]? = some (.pu d)) : eVar i st = .ok (d, false) st := by unfold eVar; rw [h]
theorem eVar_ow (h : st[i]? = some (.ow ds)) : eVar i st = .ok (.lst ds, false) (st.set i (.pu (.lst ds))) := by unfold eVar; rw [h]
theorem eBin_r {f : D → D → Option R1} (ha : a st = .ok x st1) (hb : b st1 = .ok y st2) (hf : f x.1 y.1 = some z) : eBin f a b st = .ok z st2 := by unfold eBin; rw [ha]; show (b st1).bind _ = _; rw [hb]; show (match f x.1 y.1 with | some z => O.ok z st2 | none => .no) = _; rw [hf]
theorem eUn_r {f : D → Option R1} (ha : a st = .ok x st1) (hf : f x.1 = some z) : eUn f a st = .ok z st1 := by unfold eUn; rw [ha]; show (match f x.1 with | some z => O.ok z st1 | none => .no) = _; rw [hf]
theorem eIxV_r {d0 : D} (h0 : slD st[i]? = some d0) (hb : b st = .ok y st1) (h1 : slD st1[i]? = some d) (hf : fIx d y.1 = some z) : eIxV i b st = .ok z st1 := by
  unfold eIxV; rw [h0]; show (b st).bind _ = _; rw [hb]
  show (match slD st1[i]? with | none => (O.no : O R1) | some d => match fIx d y.1 with | some z => O.ok z st1 | none => O.no) = _
  rw [h1]; show (match fIx d y.1 with | some z => O.ok z st1 | none => .no) = _; rw [hf]
theorem eBinV_r {f : D → D → Option R1} {d0 : D} (h0 : slD st[i]? = some d0) (hb : b st = .ok y st1) (h1 : slD st1[i]? = some d) (hf : f d y.1 = some z) : eBinV f i b st = .ok z st1 := by
  unfold eBinV; rw [h0]; show (b st).bind _ = _; rw [hb]
  show (match slD st1[i]? with | none => (O.no : O R1) | some d => match f d y.1 with | some z => O.ok z st1 | none => O.no) = _
  rw [h1]; show (match f d y.1 with | some z => O.ok z st1 | none => .no) = _; rw [hf]
theorem eV1_r {f : D → Option R1} (h0 : slD st[i]? = some d) (hf : f d = some z) : eV1 f i st = .ok z st := by
  unfold eV1; rw [h0]; show (match f d with | some z => O.ok z st | none => .no) = _; rw [hf]
theorem aNil_r : aNil st = .ok [] st := rfl
theorem aCons_r (ha : a st = .ok x st1) (hr : er st1 = .ok ds st2) (hd : x.1 = d) : aCons a er st = .ok (d :: ds) st2 := by subst hd; unfold aCons; rw [ha]; show (er st1).bind _ = _; rw [hr]; rfl
theorem eTup_r (ha : ea st = .ok ds st1) (hl : ds.length ≤ 100000) (hz : (D.tup ds, false) = z) : eTup ea st = .ok z st1 := by subst hz; unfold eTup; rw [ha]; exact if_pos hl
theorem eLst_r (ha : ea st = .ok ds st1) (hl : ds.length ≤ 100000) (hz : (D.lst ds, true) = z) : eLst ea st = .ok z st1 := by subst hz; unfold eLst; rw [ha]; exact if_pos hl
theorem eIf_r {c : Bool} (ht : t st = .ok c st1) (h : (if c = true then a st1 else b st1) = .ok z st2) : eIf t a b st = .ok z st2 := by unfold eIf; rw [ht]; exact h
theorem eAnd_f (ha : a st = .ok x st1) (hx : x.1 = .bl false) : ∃ z, eAnd a b st = .ok z st1 ∧ z.1 = .bl false := by
  obtain ⟨d, c⟩ := x; cases hx; unfold eAnd; rw [ha]; exact ⟨_, rfl, rfl⟩
theorem tOf_r {c : Bool} (ha : a st = .ok x st1) (hx : x.1 = .bl c) : tOf a st = .ok c st1 := by obtain ⟨d, f⟩ := x; cases hx; unfold tOf; rw [ha]; rfl
theorem tNot_r {c : Bool} (h : t st = .ok c st1) : tNot' t st = .ok (!c) st1 := by unfold tNot'; rw [h]; rfl
theorem tAnd_r {c c' : Bool} (h : t st = .ok c st1) (h2 : (if c = true then u st1 else .ok false st1) = .ok c' st2) : tAnd' t u st = .ok c' st2 := by unfold tAnd'; rw [h]; exact h2
theorem tOr_r {c c' : Bool} (h : t st = .ok c st1) (h2 : (if c = true then .ok true st1 else u st1) = .ok c' st2) : tOr' t u st = .ok c' st2 := by unfold tOr'; rw [h]; exact h2
theorem eCallP_r {pm : List D → List D} {φ : EvE} {a' : List Sl} (h : ea st = .ok ds st1) (hf : φ (pus (pm ds)) = .ok z a') : eCallP ea pm φ st = .ok z st1 := by unfold eCallP; rw [h]; show (match φ (pus (pm ds)) with | .ok z _ => O.ok z st1 | .ex c d _ => O.ex c d st1 | .no => O.no) = _; rw [hf]
theorem eCallP_x {pm : List D → List D} {φ : EvE} {a' : List Sl} {c : Nat} (h : ea st = .ok ds st1) (hf : φ (pus (pm ds)) = .ex c d a') : eCallP ea pm φ st = .ex c d st1 := by unfold eCallP; rw [h]; show (match φ (pus (pm ds)) with | .ok z _ => O.ok z st1 | .ex c d _ => O.ex c d st1 | .no => O.no) = _; rw [hf]
/-! statements -/
variable {P : List Nat} {sa sb : EvS}
theorem sSeq_r (h : sa st = .nx st1) (h2 : sb st1 = o) : sSeq sa sb st = o := by unfold sSeq; rw [h]; exact h2
theorem sSeq_rt (h : sa st = .rt z st1) : sSeq sa sb st = .rt z st1 := by unfold sSeq; rw [h]
theorem sSeq_ex {c : Nat} (h : sa st = .ex c d st1) : sSeq sa sb st = .ex c d st1 := by unfold sSeq; rw [h]
theorem sSkip_r : sSkip st = .nx st := rfl
theorem sSet_r (h : a st = .ok x st1) (h2 : putS P i x st1 = o) : sSet P i a st = o := by unfold sSet; rw [h]; exact h2
theorem putS_r (hi : ¬(i ∈ P ∨ st.length ≤ i)) (ho : SO.nx (st.set i (.pu d)) = o) : putS P i (d, false) st = o := by subst ho; unfold putS; rw [if_neg hi]; cases d <;> rfl
theorem putS_ow (hi : ¬(i ∈ P ∨ st.length ≤ i)) (ho : SO.nx (st.set i (.ow ds)) = o) : putS P i (.lst ds, true) st = o := by subst ho; unfold putS; rw [if_neg hi]
theorem sRet_r (h : a st = .ok x st1) : sRet a st = .rt x st1 := by unfold sRet; rw [h]; rfl
theorem sRet_x {c : Nat} (h : a st = .ex c d st1) : sRet a st = .ex c d st1 := by unfold sRet; rw [h]; rfl
theorem sDrop_r (h : a st = .ok x st1) : sDrop a st = .nx st1 := by unfold sDrop; rw [h]; rfl
theorem sIf_r {c : Bool} (ht : t st = .ok c st1) (h : (if c = true then sa st1 else sb st1) = o) : sIf t sa sb st = o := by unfold sIf; rw [ht]; exact h
theorem sRaise_r {c : Nat} (h : a st = .ok x st1) (hd : x.1 = d) : sRaise c a st = .ex c d st1 := by subst hd; unfold sRaise; rw [h]; rfl
theorem sPar_r {d e : D} (h : ea st = .ok [d, e] st1) (hi : ¬(i ∈ P ∨ j ∈ P)) (ho : SO.nx ((st1.set i (.pu d)).set j (.pu e)) = o) : sPar P i j ea st = o := by subst ho; unfold sPar; rw [h]; exact if_neg hi
theorem sPar3_r {k : Nat} {d e g : D} (h : ea st = .ok [d, e, g] st1) (hi : ¬(i ∈ P ∨ j ∈ P ∨ k ∈ P)) (ho : SO.nx (((st1.set i (.pu d)).set j (.pu e)).set k (.pu g)) = o) : sPar3 P i j k ea st = o := by subst ho; unfold sPar3; rw [h]; exact if_neg hi
theorem sUnp_r {is : List Nat} {c : Bool} (h : a st = .ok (.tup ds, c) st1) (h2 : putAll P is ds st1 = o) : sUnp P is a st = o := by unfold sUnp; rw [h]; exact h2
theorem sItem_r {n : Int} {k : Nat} {c : Bool} {d0 : D} (h : b st = .ok x st1) (h0 : slD st1[i]? = some d0) (hx : a st1 = .ok (.int n, c) st2) (h1 : st2[i]? = some (.ow ds)) (hk : ixN ds.length n = some k) : sItem i a b st = .nx (st2.set i (.ow (ds.set k x.1))) := by
  unfold sItem; rw [h]; show (match slD st1[i]? with | none => SO.no | some _ => (a st1).toS _) = _; rw [h0]; show (a st1).toS _ = _; rw [hx]
  show (match st2[i]?, (D.int n) with | some (.ow ds), .int n => (match ixN ds.length n with | some j => SO.nx (st2.set i (.ow (ds.set j x.1))) | none => SO.no) | _, _ => SO.no) = _
  rw [h1]; show (match ixN ds.length n with | some j => SO.nx (st2.set i (.ow (ds.set j x.1))) | none => .no) = _; rw [hk]
theorem sForI_r {put : D → List Sl → SO} {it : EvI} (h : it st = .ok ds st1) (h2 : sFor put sa ds st1 = o) : sForI put it sa st = o := by unfold sForI; rw [h]; exact h2
theorem iSeq_t {c : Bool} (h : a st = .ok (.tup ds, c) st1) : iSeq a st = .ok ds st1 := by unfold iSeq; rw [h]; rfl
theorem iSeq_l {c : Bool} (h : a st = .ok (.lst ds, c) st1) : iSeq a st = .ok ds st1 := by unfold iSeq; rw [h]; rfl
theorem iRng_r {n : Int} {c : Bool} (h : a st = .ok (.int n, c) st1) (hn : -100000 ≤ n ∧ n ≤ 100000) : iRng a st = .ok (rngD 0 n.toNat) st1 := by
  unfold iRng; rw [h]; show (match (if -100000 ≤ n ∧ n ≤ 100000 then some n else none) with | some n => O.ok (rngD 0 n.toNat) st1 | none => .no) = _; rw [if_pos hn]
/-- a def's run -/
theorem def_rt {n np : Nat} {s' st' : List Sl} (hl : st.length = np) (hP : owsAt 0 st = P) (h : sa (st ++ List.replicate (n - np) .un) = .rt z s') (hf : fixS st s' = some st') : defEv n np P sa st = .ok z st' := by
  unfold defEv; rw [if_pos ⟨hl, hP⟩, h]; show (match fixS st s' with | some s => O.ok z s | none => .no) = _; rw [hf]
theorem def_nx {n np : Nat} {s' st' : List Sl} (hl : st.length = np) (hP : owsAt 0 st = P) (h : sa (st ++ List.replicate (n - np) .un) = .nx s') (hf : fixS st s' = some st') : defEv n np P sa st = .ok (.non, false) st' := by
  unfold defEv; rw [if_pos ⟨hl, hP⟩, h]; show (match fixS st s' with | some s => O.ok (D.non, false) s | none => .no) = _; rw [hf]
theorem def_ex {n np c : Nat} {s' st' : List Sl} (hl : st.length = np) (hP : owsAt 0 st = P) (h : sa (st ++ List.replicate (n - np) .un) = .ex c d s') (hf : fixS st s' = some st') : defEv n np P sa st = .ex c d st' := by
  unfold defEv; rw [if_pos ⟨hl, hP⟩, h]; show (match fixS st s' with | some s => O.ex c d s | none => .no) = _; rw [hf]
/-! operators -/
variable {m n : Int}
/-- two factors that may be multiplied -/
abbrev mOk (a b : Int) : Prop := a.natAbs.log2 + b.natAbs.log2 < 1000000
theorem fMul_r (h : mOk m n) : fMul (.int m) (.int n) = some (.int (m * n), false) := by unfold fMul fI; dsimp only; rw [if_pos (decide_eq_true h)]
theorem fDiv_r (h : n ≠ 0 ∧ n.natAbs.log2 < 9000) : fDiv (.int m) (.int n) = some (.int (m.fdiv n), false) := by unfold fDiv fI; dsimp only; rw [if_pos (decide_eq_true h)]
theorem fMod_r (h : n ≠ 0) : fMod (.int m) (.int n) = some (.int (m.fmod n), false) := by unfold fMod fI; dsimp only; rw [if_pos (decide_eq_true h)]
theorem fPow_r (h : 0 ≤ n ∧ n ≤ 1000000 ∧ m.natAbs < 2 ^ 64) : fPow (.int m) (.int n) = some (.int (m ^ n.toNat), false) := by unfold fPow fI; dsimp only; rw [if_pos (decide_eq_true h)]
end
end TX
namespace TX
open PySem L2
theorem fEqI_r {m n : Int} : fEq true (.int m) (.int n) = some (.bl (decide (m = n)), false) := by
  have e : PyData.eqv (.int m) (.int n) = decide (m = n) := by first | rfl | (simp [PyData.eqv]; done) | (unfold PyData.eqv; by_cases h : m = n <;> simp [h])
  show some (D.bl (PyData.eqv (.int m) (.int n) == true), false) = _
  rw [e]
  cases decide (m = n) <;> rfl
theorem fNeI_r {m n : Int} : fEq false (.int m) (.int n) = some (.bl (!decide (m = n)), false) := by
  have e : PyData.eqv (.int m) (.int n) = decide (m = n) := by first | rfl | (simp [PyData.eqv]; done) | (unfold PyData.eqv; by_cases h : m = n <;> simp [h])
  show some (D.bl (PyData.eqv (.int m) (.int n) == false), false) = _
  rw [e]
  cases decide (m = n) <;> rfl
theorem fIx_scr {ns : List Int} {i n : Int} (h : atI ns i = some n) : fIx (.scr ns) (.int i) = some (.int n, false) := by show (atI ns i).map _ = _; rw [h]; rfl
theorem eAnd_r {a b : EvE} {x z : R1} {st st1 st2 : List Sl} {c : Bool} (ha : a st = .ok x st1) (hx : x.1 = .bl c) (h : (if c = true then b st1 else .ok (.bl false, false) st1) = .ok z st2) : eAnd a b st = .ok z st2 := by
  obtain ⟨d, f⟩ := x; cases hx; unfold eAnd; rw [ha]; cases c <;> exact h
theorem eOr_r {a b : EvE} {x z : R1} {st st1 st2 : List Sl} {c : Bool} (ha : a st = .ok x st1) (hx : x.1 = .bl c) (h : (if c = true then .ok (.bl true, false) st1 else b st1) = .ok z st2) : eOr a b st = .ok z st2 := by
  obtain ⟨d, f⟩ := x; cases hx; unfold eOr; rw [ha]; cases c <;> exact h
theorem eNot_r {a : EvE} {x : R1} {st st1 : List Sl} {c : Bool} (ha : a st = .ok x st1) (hx : x.1 = .bl c) : eNot a st = .ok (.bl (!c), false) st1 := by
  obtain ⟨d, f⟩ := x; cases hx; unfold eNot; rw [ha]; rfl
theorem eLc_r {vs : List Nat} {it : EvI} {put : D → List Sl → SO} {t : EvT} {e : EvE} {st st1 st2 st3 : List Sl} {ds : List D} {zs : List D} (h : it st = .ok ds st1) (hn : noOwn st1 vs = true ∧ ds.length ≤ 100000) (hc : cLoop vs put t e ds st1 = .ok zs st2) (hl : st2.length = st1.length) (ho : backS st1 st2 vs = st3) :
    eLc vs it put t e st = .ok (.lst zs, true) st3 := by
  subst ho
  unfold eLc; rw [h]; show (if noOwn st1 vs = true ∧ ds.length ≤ 100000 then _ else O.no) = _; rw [if_pos hn]
  show (match cLoop vs put t e ds st1 with | .ok zs st2 => if st2.length = st1.length then O.ok (D.lst zs, true) (backS st1 st2 vs) else .no | _ => .no) = _
  rw [hc]; show (if st2.length = st1.length then O.ok (D.lst zs, true) (backS st1 st2 vs) else .no) = _; rw [if_pos hl]
theorem cLoop_nil {vs : List Nat} {put : D → List Sl → SO} {t : EvT} {e : EvE} {st : List Sl} : cLoop vs put t e [] st = .ok [] st := rfl
theorem cLoop_f {vs : List Nat} {put : D → List Sl → SO} {t : EvT} {e : EvE} {st st1 st2 : List Sl} {d : D} {r : List D} {o : O (List D)} (hp : put d (wipeS st vs) = .nx st1) (ht : t st1 = .ok false st2) (hn : noOwn st2 vs = true) (h : cLoop vs put t e r st2 = o) : cLoop vs put t e (d :: r) st = o := by
  subst h
  show (match put d (wipeS st vs) with | .nx st1 => (match t st1 with | .ok true st2 => (match e st2 with | .ok z st3 => if noOwn st3 vs = true then (match cLoop vs put t e r st3 with | .ok zs st4 => O.ok (z.1 :: zs) st4 | _ => .no) else .no | _ => .no) | .ok false st2 => if noOwn st2 vs = true then cLoop vs put t e r st2 else .no | _ => .no) | _ => .no) = _
  rw [hp]; dsimp only; rw [ht]; dsimp only; rw [if_pos hn]
theorem cLoop_t {vs : List Nat} {put : D → List Sl → SO} {t : EvT} {e : EvE} {st st1 st2 st3 st4 : List Sl} {d : D} {r zs : List D} {z : R1} (hp : put d (wipeS st vs) = .nx st1) (ht : t st1 = .ok true st2) (he : e st2 = .ok z st3) (hn : noOwn st3 vs = true) (h : cLoop vs put t e r st3 = .ok zs st4) : cLoop vs put t e (d :: r) st = .ok (z.1 :: zs) st4 := by
  show (match put d (wipeS st vs) with | .nx st1 => (match t st1 with | .ok true st2 => (match e st2 with | .ok z st3 => if noOwn st3 vs = true then (match cLoop vs put t e r st3 with | .ok zs st4 => O.ok (z.1 :: zs) st4 | _ => .no) else .no | _ => .no) | .ok false st2 => if noOwn st2 vs = true then cLoop vs put t e r st2 else .no | _ => .no) | _ => .no) = _
  rw [hp]; dsimp only; rw [ht]; dsimp only; rw [he]; dsimp only; rw [if_pos hn, h]
theorem atI_nat {α : Type} {ds : List α} {k : Nat} (h : k < ds.length) : atI ds (k : Int) = some ds[k] := by
  unfold atI ixN
  simp [h]
theorem fIx_tup {ds : List D} {i : Int} {d : D} (h : atI ds i = some d) : fIx (.tup ds) (.int i) = some (d, false) := by show (atI ds i).map _ = _; rw [h]; rfl
theorem fIx_lst {ds : List D} {i : Int} {d : D} (h : atI ds i = some d) : fIx (.lst ds) (.int i) = some (d, false) := by show (atI ds i).map _ = _; rw [h]; rfl
theorem eCallA_io {i : Nat} {st : List Sl} {l l' : List D} {φ : EvE} {z : R1} (h0 : st[i]? = some (.ow l)) (hf : φ [.ow l] = .ok z [.ow l']) : eCallA [.io i] φ st = .ok z (st.set i (.ow l')) := by
  unfold eCallA agEv; rw [h0]; show (if [i].Nodup then _ else O.no) = _; rw [if_pos (by simp)]
  unfold mkArgs; rw [h0]; show (match φ [.ow l] with | .ok z a' => _ | .ex c d a' => _ | .no => O.no) = _; rw [hf]; rfl
theorem eCallA_iov {i : Nat} {st st1 : List Sl} {l l1 l' : List D} {φ e : EvE} {x z : R1} {s : Sl} (h0 : st[i]? = some (.ow l)) (he : e st = .ok x st1) (h1 : st1[i]? = some (.ow l1)) (hf : φ [.ow l1, .pu x.1] = .ok z [.ow l', s]) : eCallA [.io i, .v e] φ st = .ok z (st1.set i (.ow l')) := by
  unfold eCallA agEv; rw [h0]; show (O.bind (O.bind (agEv [.v e] st) _) _) = _
  unfold agEv; rw [he]; show (if [i].Nodup then _ else O.no) = _; rw [if_pos (by simp)]
  unfold mkArgs; rw [h1]; show (match φ [.ow l1, .pu x.1] with | .ok z a' => _ | .ex c d a' => _ | .no => O.no) = _; rw [hf]; rfl
theorem eCallA_tmp {st st1 : List Sl} {l l' : List D} {φ e : EvE} {z : R1} (he : e st = .ok (.lst l, true) st1) (hf : φ [.ow l] = .ok z [.ow l']) : eCallA [.tmp e] φ st = .ok z st1 := by
  unfold eCallA agEv; rw [he]; show (if ([] : List Nat).Nodup then _ else O.no) = _; rw [if_pos (by simp)]
  show (match φ [.ow l] with | .ok z a' => _ | .ex c d a' => _ | .no => O.no) = _; rw [hf]; rfl
theorem eCallK_r {a b : EvA} {m n : Nat} {pm : List D → List D} {φ : EvE} {st st1 st2 a' : List Sl} {ds es : List D} {z : R1} (ha : a st = .ok ds st1) (hb : b st1 = .ok es st2) (hc : ds.length = n ∧ es.length = m) (hf : φ (pus (pm (ds ++ es))) = .ok z a') : eCallK a b m n pm φ st = .ok z st2 := by
  unfold eCallK; rw [ha]; show (b st1).bind _ = _; rw [hb]; show (if ds.length = n ∧ es.length = m then _ else O.no) = _; rw [if_pos hc]
  show (match φ (pus (pm (ds ++ es))) with | .ok z _ => O.ok z st2 | .ex c d _ => .ex c d st2 | .no => .no) = _
  rw [hf]
theorem sWhN_t {t : EvT} {body : EvS} {n : Nat} {st st1 s : List Sl} {o : SO} (h : t st = .ok true st1) (hb : body st1 = .nx s) (h2 : sWhN t body n s = o) : sWhN t body (n + 1) st = o := by
  unfold sWhN; rw [h]; show (if true = true then (match body st1 with | .nx s => sWhN t body n s | .ct s => sWhN t body n s | .bk s => SO.nx s | o => o) else SO.nx st1) = o; rw [if_pos rfl, hb]; exact h2
theorem sWhN_f {t : EvT} {body : EvS} {n : Nat} {st st1 : List Sl} (h : t st = .ok false st1) : sWhN t body (n + 1) st = .nx st1 := by
  unfold sWhN; rw [h]; rfl
theorem sFor_nil {put : D → List Sl → SO} {body : EvS} {st : List Sl} : sFor put body [] st = .nx st := rfl
theorem sFor_cons {put : D → List Sl → SO} {body : EvS} {d : D} {r : List D} {st st1 s : List Sl} {o : SO} (h : put d st = .nx st1) (hb : body st1 = .nx s) (h2 : sFor put body r s = o) : sFor put body (d :: r) st = o := by
  unfold sFor; rw [h]; show (match body st1 with | .nx s => sFor put body r s | .ct s => sFor put body r s | .bk s => SO.nx s | o => o) = o; rw [hb]; exact h2
end TX

end

open TX in
local macro_rules | `(tactic| walk_at "ev1") => `(tactic| first | with_reducible exact eC_r | with_reducible exact aNil_r | with_reducible exact sSkip_r | with_reducible apply eVar_r | with_reducible apply eBin_r | with_reducible apply eUn_r | with_reducible apply eIxV_r | with_reducible apply eBinV_r | with_reducible apply eV1_r | with_reducible apply aCons_r | with_reducible apply eTup_r | with_reducible apply eLst_r | with_reducible apply eIf_r | with_reducible apply eNot_r | with_reducible apply eCallP_r | with_reducible apply tOf_r | with_reducible apply tNot_r | with_reducible apply tAnd_r | with_reducible apply tOr_r | with_reducible apply sSet_r | with_reducible apply putS_r | with_reducible apply putS_ow | with_reducible apply sRet_r | with_reducible apply sSeq_r | with_reducible apply def_rt rfl rfl | with_reducible apply sPar_r | with_reducible apply sPar3_r | with_reducible apply fIx_scr | with_reducible exact fEqI_r | with_reducible exact fNeI_r | with_reducible apply fMul_r | with_reducible apply fDiv_r | with_reducible apply fMod_r | with_reducible apply fPow_r)
open TX in
local macro_rules | `(tactic| walk_at "ev") => `(tactic| repeat' (first | walk_at "ev1" | assumption | exact rfl | decide | (simp; done) | (simp [*]; done)))

section
set_option Elab.async false
set_option linter.all false
set_option maxRecDepth 100000
set_option maxHeartbeats 2000000
noncomputable section
namespace G
open PySem PySem.Spec PyProof.Rows L2 TX
def d_ZERO : D := .tup [.int 0, .int 1]
def d_ONE : D := .tup [.int 1, .int 1]
def w_ZERO : List He.Dv := [.int 0, .int 1]
def w_ONE : List He.Dv := [.int 1, .int 1]
theorem dq_ZERO {K : PySem.W.Frag} {H : Hp} {a : Addr} (h : SqT K H a (w_ZERO.map (He.Dv.v K))) : Dq K H (.ref a) d_ZERO := .tup h (.cons (.int _) (.cons (.int _) .nil))
theorem dq_ONE {K : PySem.W.Frag} {H : Hp} {a : Addr} (h : SqT K H a (w_ONE.map (He.Dv.v K))) : Dq K H (.ref a) d_ONE := .tup h (.cons (.int _) (.cons (.int _) .nil))
def mt (c k : Nat) : Bool := decide (c = k ∨ k = 0)
def pm_number_0_bottom_top : {α : Type} → List α → List α := fun l => match l with | [x0, x1] => [x1, x0] | l => l
def pm_by_0_b_a : {α : Type} → List α → List α := fun l => match l with | [x0, x1] => [x1, x0] | l => l
def pm_plus_0_b_a : {α : Type} → List α → List α := fun l => match l with | [x0, x1] => [x1, x0] | l => l
def pm_minus_0_b_a : {α : Type} → List α → List α := fun l => match l with | [x0, x1] => [x1, x0] | l => l
def pm_times_0_b_a : {α : Type} → List α → List α := fun l => match l with | [x0, x1] => [x1, x0] | l => l
def pm_below_0_b_a : {α : Type} → List α → List α := fun l => match l with | [x0, x1] => [x1, x0] | l => l
def pm_power_0_n_a : {α : Type} → List α → List α := fun l => match l with | [x0, x1] => [x1, x0] | l => l
def pm_total_0_numbers : {α : Type} → List α → List α := fun l => match l with | [x0] => [x0] | l => l
def pm_greatest_0_numbers : {α : Type} → List α → List α := fun l => match l with | [x0] => [x0] | l => l
def pm_least_0_numbers : {α : Type} → List α → List α := fun l => match l with | [x0] => [x0] | l => l
def pm_is_number_0_told : {α : Type} → List α → List α := fun l => match l with | [x0] => [x0] | l => l
def r_is_whole : EvS := sRet (eAnd (eV1 (fIsi [.int]) 0) (eNot (eV1 (fIsi [.bool]) 0)))
def f_is_whole : EvE := defEv 1 1 [] (r_is_whole)
def r_is_number : EvS := sSeq (sIf (tOr' (tNot' (tOf (eV1 (fIsi [.tuple]) 0))) (tOf (eBin (fEq false) (eV1 fLen 0) (eC (.int 2))))) (sRet (eC (.bl false))) (sSkip)) (sSeq (sUnp [] [1, 2] (eVar 0)) (sRet (eAnd (eCallP (aCons (eVar 1) (aNil)) id f_is_whole) (eAnd (eCallP (aCons (eVar 2) (aNil)) id f_is_whole) (eAnd (eBin fGt (eVar 2) (eC (.int 0))) (eBin (fEq true) (eBin fGcd (eVar 1) (eVar 2)) (eC (.int 1))))))))
def f_is_number : EvE := defEv 3 1 [] (r_is_number)
def r_check_count : EvS := sIf (tOr' (tNot' (tOf (eCallP (aCons (eVar 0) (aNil)) id f_is_whole))) (tOf (eBin fLt (eVar 0) (eC (.int 0))))) (sRaise 1 (eVar 0)) (sSkip)
def f_check_count : EvE := defEv 1 1 [] (r_check_count)
def r_number : EvS := sSeq (sIf (tOf (eBinV (fEq true) 1 (eC (.int 0)))) (sRaise 2 (eVar 0)) (sSkip)) (sSeq (sSet [] 2 (eBin fGcd (eVar 0) (eVar 1))) (sSeq (sIf (tOf (eBin fLt (eVar 1) (eC (.int 0)))) (sSet [] 2 (eUn fNeg (eVar 2))) (sSkip)) (sRet (eTup (aCons (eBin fDiv (eVar 0) (eVar 2)) (aCons (eBin fDiv (eVar 1) (eVar 2)) (aNil)))))))
def f_number : EvE := defEv 3 2 [] (r_number)
def r__check_all : EvS := sForI (putN [] 1) (iSeq (eVar 0)) (sIf (tNot' (tOf (eCallP (aCons (eVar 1) (aNil)) id f_is_number))) (sRaise 1 (eVar 1)) (sSkip))
def f__check_all : EvE := defEv 2 1 [] (r__check_all)
def r_plus : EvS := sSeq (sDrop (eCallP (aCons (eTup (aCons (eVar 0) (aCons (eVar 1) (aNil)))) (aNil)) id f__check_all)) (sRet (eCallP (aCons (eBin fAdd (eBin fMul (eIxV 0 (eC (.int 0))) (eIxV 1 (eC (.int 1)))) (eBin fMul (eIxV 1 (eC (.int 0))) (eIxV 0 (eC (.int 1))))) (aCons (eBin fMul (eIxV 0 (eC (.int 1))) (eIxV 1 (eC (.int 1)))) (aNil))) id f_number))
def f_plus : EvE := defEv 2 2 [] (r_plus)
def r_minus : EvS := sSeq (sDrop (eCallP (aCons (eTup (aCons (eVar 0) (aCons (eVar 1) (aNil)))) (aNil)) id f__check_all)) (sRet (eCallP (aCons (eBin fSub (eBin fMul (eIxV 0 (eC (.int 0))) (eIxV 1 (eC (.int 1)))) (eBin fMul (eIxV 1 (eC (.int 0))) (eIxV 0 (eC (.int 1))))) (aCons (eBin fMul (eIxV 0 (eC (.int 1))) (eIxV 1 (eC (.int 1)))) (aNil))) id f_number))
def f_minus : EvE := defEv 2 2 [] (r_minus)
def r_times : EvS := sSeq (sDrop (eCallP (aCons (eTup (aCons (eVar 0) (aCons (eVar 1) (aNil)))) (aNil)) id f__check_all)) (sRet (eCallP (aCons (eBin fMul (eIxV 0 (eC (.int 0))) (eIxV 1 (eC (.int 0)))) (aCons (eBin fMul (eIxV 0 (eC (.int 1))) (eIxV 1 (eC (.int 1)))) (aNil))) id f_number))
def f_times : EvE := defEv 2 2 [] (r_times)
def r_by : EvS := sSeq (sDrop (eCallP (aCons (eTup (aCons (eVar 0) (aCons (eVar 1) (aNil)))) (aNil)) id f__check_all)) (sSeq (sIf (tOf (eBinV (fEq true) 1 (eC d_ZERO))) (sRaise 2 (eVar 0)) (sSkip)) (sRet (eCallP (aCons (eBin fMul (eIxV 0 (eC (.int 0))) (eIxV 1 (eC (.int 1)))) (aCons (eBin fMul (eIxV 0 (eC (.int 1))) (eIxV 1 (eC (.int 0)))) (aNil))) id f_number)))
def f_by : EvE := defEv 2 2 [] (r_by)
def r_power : EvS := sSeq (sDrop (eCallP (aCons (eTup (aCons (eVar 0) (aNil))) (aNil)) id f__check_all)) (sSeq (sDrop (eCallP (aCons (eVar 1) (aNil)) id f_check_count)) (sSeq (sUnp [] [2, 3] (eC d_ONE)) (sSeq (sForI (putN [] 4) (iRng (eVar 1)) (sSeq (sSet [] 2 (eBin fMul (eVar 2) (eIxV 0 (eC (.int 0))))) (sSet [] 3 (eBin fMul (eVar 3) (eIxV 0 (eC (.int 1))))))) (sRet (eTup (aCons (eVar 2) (aCons (eVar 3) (aNil))))))))
def f_power : EvE := defEv 5 2 [] (r_power)
def r__is_less : EvS := sRet (eBin fLt (eBin fMul (eIxV 0 (eC (.int 0))) (eIxV 1 (eC (.int 1)))) (eBin fMul (eIxV 1 (eC (.int 0))) (eIxV 0 (eC (.int 1)))))
def f__is_less : EvE := defEv 2 2 [] (r__is_less)
def r_below : EvS := sSeq (sDrop (eCallP (aCons (eTup (aCons (eVar 0) (aCons (eVar 1) (aNil)))) (aNil)) id f__check_all)) (sRet (eCallP (aCons (eVar 0) (aCons (eVar 1) (aNil))) id f__is_less))
def f_below : EvE := defEv 2 2 [] (r_below)
def r__check_not_empty : EvS := sSeq (sIf (tOf (eBin (fEq true) (eV1 fLen 0) (eC (.int 0)))) (sRaise 1 (eVar 0)) (sSkip)) (sDrop (eCallP (aCons (eVar 0) (aNil)) id f__check_all))
def f__check_not_empty : EvE := defEv 1 1 [] (r__check_not_empty)
def r_least : EvS := sSeq (sDrop (eCallP (aCons (eVar 0) (aNil)) id f__check_not_empty)) (sSeq (sSet [] 1 (eIxV 0 (eC (.int 0)))) (sSeq (sForI (putN [] 2) (iSeq (eVar 0)) (sIf (tOf (eCallP (aCons (eVar 2) (aCons (eVar 1) (aNil))) id f__is_less)) (sSet [] 1 (eVar 2)) (sSkip))) (sRetV [] 1)))
def f_least : EvE := defEv 3 1 [] (r_least)
def r_greatest : EvS := sSeq (sDrop (eCallP (aCons (eVar 0) (aNil)) id f__check_not_empty)) (sSeq (sSet [] 1 (eIxV 0 (eC (.int 0)))) (sSeq (sForI (putN [] 2) (iSeq (eVar 0)) (sIf (tOf (eCallP (aCons (eVar 1) (aCons (eVar 2) (aNil))) id f__is_less)) (sSet [] 1 (eVar 2)) (sSkip))) (sRetV [] 1)))
def f_greatest : EvE := defEv 3 1 [] (r_greatest)
def r_total : EvS := sSeq (sDrop (eCallP (aCons (eVar 0) (aNil)) id f__check_all)) (sSeq (sSet [] 1 (eC d_ZERO)) (sSeq (sForI (putN [] 2) (iSeq (eVar 0)) (sSet [] 1 (eCallP (aCons (eBin fAdd (eBin fMul (eIxV 1 (eC (.int 0))) (eIxV 2 (eC (.int 1)))) (eBin fMul (eIxV 2 (eC (.int 0))) (eIxV 1 (eC (.int 1))))) (aCons (eBin fMul (eIxV 1 (eC (.int 1))) (eIxV 2 (eC (.int 1)))) (aNil))) id f_number))) (sRetV [] 1)))
def f_total : EvE := defEv 3 1 [] (r_total)
def r__law_deck : EvS := sSeq (sSet [] 2 (eC (.int 0))) (sSeq (sIf (tOf (eBin fLt (eVar 1) (eV1 fLen 0))) (sSet [] 2 (eIxV 0 (eVar 1))) (sSkip)) (sSeq (sSet [] 3 (eBin fMod (eUn fInt (eBin fAdd (eBin fAdd (eVar 2) (eBin fMul (eC (.int 7919)) (eVar 1))) (eC (.int 104729)))) (eC (.int 2305843009213693951)))) (sSeq (sSet [] 3 (eBin fMod (eUn fInt (eBin fAdd (eBin fAdd (eBin fMul (eBin fMul (eVar 3) (eVar 3)) (eVar 3)) (eBin fMul (eC (.int 31)) (eVar 1))) (eC (.int 7)))) (eC (.int 2305843009213693951)))) (sSeq (sIf (tOf (eBin fLt (eVar 2) (eBin fPow (eC (.int 10)) (eC (.int 18))))) (sRet (eLst (aCons (eC (.int 0)) (aCons (eVar 3) (aNil))))) (sSkip)) (sRet (eLst (aCons (eBin fSub (eVar 2) (eBin fPow (eC (.int 10)) (eC (.int 18)))) (aCons (eVar 3) (aNil)))))))))
def f__law_deck : EvE := defEv 4 2 [] (r__law_deck)
def r__law_take : EvS := sSeq (sIf (tOf (eBin fGt (eIxV 0 (eC (.int 0))) (eC (.int 0)))) (sSeq (sSet [0] 2 (eBin fMod (eUn fInt (eIxV 0 (eC (.int 0)))) (eVar 1))) (sSeq (sItem 0 (eC (.int 0)) (eBin fDiv (eIxV 0 (eC (.int 0))) (eVar 1))) (sRetV [0] 2))) (sSkip)) (sSeq (sItem 0 (eC (.int 1)) (eBin fMod (eUn fInt (eBin fAdd (eBin fMul (eIxV 0 (eC (.int 1))) (eC (.int 6364136223846793005))) (eC (.int 1442695040888963407)))) (eBin fPow (eC (.int 2)) (eC (.int 64))))) (sRet (eBin fMod (eBin fDiv (eIxV 0 (eC (.int 1))) (eBin fPow (eC (.int 2)) (eC (.int 33)))) (eVar 1))))
def f__law_take : EvE := defEv 3 2 [0] (r__law_take)
def r__law_gcd : EvS := sSeq (sWh (tOf (eBinV (fEq false) 1 (eC (.int 0)))) (sPar [] 0 1 (aCons (eVar 1) (aCons (eBin fMod (eV1 fInt 0) (eVar 1)) (aNil))))) (sRetV [] 0)
def f__law_gcd : EvE := defEv 2 2 [] (r__law_gcd)
def r__law_pair : EvS := sSeq (sSet [] 2 (eCallP (aCons (eV1 fAbs 0) (aCons (eV1 fAbs 1) (aNil))) id f__law_gcd)) (sSeq (sIf (tOf (eBin fLt (eVar 1) (eC (.int 0)))) (sSet [] 2 (eUn fNeg (eVar 2))) (sSkip)) (sRet (eTup (aCons (eBin fDiv (eVar 0) (eVar 2)) (aCons (eBin fDiv (eVar 1) (eVar 2)) (aNil))))))
def f__law_pair : EvE := defEv 3 2 [] (r__law_pair)
def r__law_plus : EvS := sRet (eCallP (aCons (eBin fAdd (eBin fMul (eIxV 0 (eC (.int 0))) (eIxV 1 (eC (.int 1)))) (eBin fMul (eIxV 1 (eC (.int 0))) (eIxV 0 (eC (.int 1))))) (aCons (eBin fMul (eIxV 0 (eC (.int 1))) (eIxV 1 (eC (.int 1)))) (aNil))) id f__law_pair)
def f__law_plus : EvE := defEv 2 2 [] (r__law_plus)
def r__law_times : EvS := sRet (eCallP (aCons (eBin fMul (eIxV 0 (eC (.int 0))) (eIxV 1 (eC (.int 0)))) (aCons (eBin fMul (eIxV 0 (eC (.int 1))) (eIxV 1 (eC (.int 1)))) (aNil))) id f__law_pair)
def f__law_times : EvE := defEv 2 2 [] (r__law_times)
def r__law_less : EvS := sRet (eBin fLt (eBin fSub (eBin fMul (eIxV 0 (eC (.int 0))) (eIxV 1 (eC (.int 1)))) (eBin fMul (eIxV 1 (eC (.int 0))) (eIxV 0 (eC (.int 1))))) (eC (.int 0)))
def f__law_less : EvE := defEv 2 2 [] (r__law_less)
def r__law_same (me : EvE) : EvS := sSeq (sIf (tOf (eV1 (fIsi [.tuple, .list]) 1)) (sSeq (sIf (tOr' (tOf (eBin (fEq false) (eV1 (fIsi [.tuple]) 0) (eV1 (fIsi [.tuple]) 1))) (tOf (eBin (fEq false) (eV1 (fIsi [.list]) 0) (eV1 (fIsi [.list]) 1)))) (sRet (eC (.bl false))) (sSkip)) (sSeq (sIf (tOf (eBin (fEq false) (eV1 fLen 0) (eV1 fLen 1))) (sRet (eC (.bl false))) (sSkip)) (sRet (eBin (fEq true) (eLc [2] (iRng (eV1 fLen 1)) (putN [] 2) (tNot' (tOf (eCallP (aCons (eIxV 0 (eVar 2)) (aCons (eIxV 1 (eVar 2)) (aNil))) id me))) (eVar 2)) (eLst (aNil)))))) (sSkip)) (sSeq (sIf (tOf (eBin (fIs true) (eVar 1) (eC .non))) (sRet (eBin (fIs true) (eVar 0) (eC .non))) (sSkip)) (sSeq (sIf (tOf (eV1 (fIsi [.str]) 1)) (sRet (eAnd (eV1 (fIsi [.str]) 0) (eBinV (fEq true) 0 (eVar 1)))) (sSkip)) (sSeq (sIf (tOr' (tOf (eV1 (fIsi [.bool]) 1)) (tOf (eV1 (fIsi [.bool]) 0))) (sRet (eAnd (eV1 (fIsi [.bool]) 1) (eAnd (eV1 (fIsi [.bool]) 0) (eBinV (fEq true) 0 (eVar 1))))) (sSkip)) (sRet (eAnd (eV1 (fIsi [.int]) 0) (eBinV (fEq true) 0 (eVar 1)))))))
def f__law_same : Nat → EvE
  | 0 => fun _ => .no
  | k + 1 => defEv 3 2 [] (r__law_same (f__law_same k))
def r__law_integer : EvS := sSeq (sSet [0] 1 (eCallA (.io 0 :: .v (eBin fPow (eC (.int 10)) (eC (.int 6))) :: []) f__law_take)) (sSeq (sSet [0] 2 (eBin fAdd (eC (.int 1)) (eCallA (.io 0 :: .v (eBin fPow (eC (.int 10)) (eC (.int 9))) :: []) f__law_take))) (sSeq (sSet [0] 3 (eBin fIx (eLst (aCons (eC (.int 0)) (aCons (eVar 1) (aCons (eBin fDiv (eVar 1) (eBin fPow (eC (.int 10)) (eC (.int 5)))) (aCons (eBin fPow (eVar 2) (eC (.int 3))) (aCons (eBin fAdd (eBin fPow (eVar 2) (eC (.int 9))) (eVar 1)) (aCons (eC (.int 1)) (aCons (eC (.int 2)) (aNil))))))))) (eCallA (.io 0 :: .v (eC (.int 7)) :: []) f__law_take))) (sRet (eBin fIx (eLst (aCons (eVar 3) (aCons (eUn fNeg (eVar 3)) (aNil)))) (eCallA (.io 0 :: .v (eC (.int 2)) :: []) f__law_take)))))
def f__law_integer : EvE := defEv 4 1 [0] (r__law_integer)
def r__law_couple : EvS := sSeq (sPar [0] 1 2 (aCons (eCallA (.io 0 :: []) f__law_integer) (aCons (eCallA (.io 0 :: []) f__law_integer) (aNil)))) (sSeq (sSet [0] 3 (eCallA (.io 0 :: .v (eC (.int 4)) :: []) f__law_take)) (sSeq (sIf (tOr' (tOf (eBinV (fEq true) 3 (eC (.int 0)))) (tOf (eBinV (fEq true) 2 (eC (.int 0))))) (sRet (eTup (aCons (eVar 1) (aCons (eVar 2) (aNil))))) (sSkip)) (sSeq (sIf (tOf (eBinV (fEq true) 3 (eC (.int 1)))) (sSeq (sSet [0] 4 (eBin fAdd (eC (.int 2)) (eCallA (.io 0 :: .v (eC (.int 30)) :: []) f__law_take))) (sRet (eTup (aCons (eBin fMul (eVar 1) (eVar 4)) (aCons (eBin fMul (eV1 fAbs 2) (eVar 4)) (aNil)))))) (sSkip)) (sRet (eCallP (aCons (eVar 1) (aCons (eVar 2) (aNil))) id f__law_pair)))))
def f__law_couple : EvE := defEv 5 1 [0] (r__law_couple)
def r__law_own : EvS := sSeq (sPar [0] 1 2 (aCons (eCallA (.io 0 :: []) f__law_integer) (aCons (eCallA (.io 0 :: []) f__law_integer) (aNil)))) (sRet (eCallP (aCons (eVar 1) (aCons (eBin fAdd (eVar 2) (eUn fInt (eBinV (fEq true) 2 (eC (.int 0))))) (aNil))) id f__law_pair))
def f__law_own : EvE := defEv 3 1 [0] (r__law_own)
def r__law_small : EvS := sRet (eCallP (aCons (eBin fSub (eCallA (.io 0 :: .v (eC (.int 21)) :: []) f__law_take) (eC (.int 10))) (aCons (eBin fAdd (eC (.int 1)) (eCallA (.io 0 :: .v (eC (.int 6)) :: []) f__law_take)) (aNil))) id f__law_pair)
def f__law_small : EvE := defEv 1 1 [0] (r__law_small)
def r__law_is : EvS := sRet (eAnd (eBin fGt (eIxV 0 (eC (.int 1))) (eC (.int 0))) (eBin (fEq true) (eCallP (aCons (eUn fAbs (eIxV 0 (eC (.int 0)))) (aCons (eIxV 0 (eC (.int 1))) (aNil))) id f__law_gcd) (eC (.int 1))))
def f__law_is : EvE := defEv 1 1 [] (r__law_is)
def r__law_divided (cl : Nat → Addr) : EvS := sSeq (sSet [] 3 (eLst (aCons (eC (.str "")) (aCons (eC .non) (aNil))))) (sSeq (sTry [] cl mt 3 (sIf (tOf (eBinV (fEq true) 0 (eC (.int 0)))) (sSet [] 3 (eLst (aCons (eC (.str "none")) (aCons (eIf (tOf (eVar 2)) (eCallK aNil (aCons (eC (.int 0)) (aCons (eIxV 1 (eC (.int 0))) (aNil))) 2 0 pm_number_0_bottom_top f_number) (eCallP (aCons (eIxV 1 (eC (.int 0))) (aCons (eC (.int 0)) (aNil))) id f_number)) (aNil))))) (sSet [] 3 (eLst (aCons (eC (.str "none")) (aCons (eIf (tOf (eVar 2)) (eCallK aNil (aCons (eTup (aCons (eC (.int 0)) (aCons (eC (.int 1)) (aNil)))) (aCons (eVar 1) (aNil))) 2 0 pm_by_0_b_a f_by) (eCallP (aCons (eVar 1) (aCons (eTup (aCons (eC (.int 0)) (aCons (eC (.int 1)) (aNil)))) (aNil))) id f_by)) (aNil)))))) ((1, some 4, sSet [] 3 (eLst (aCons (eC (.str "number")) (aCons (eUn fVal (eVar 4)) (aNil))))) :: (2, some 4, sSet [] 3 (eLst (aCons (eC (.str "zero")) (aCons (eUn fVal (eVar 4)) (aNil))))) :: [])) (sRetV [] 3))
def f__law_divided (cl : Nat → Addr) : EvE := defEv 5 3 [] (r__law_divided cl)
def r__law_two_right : EvS := sSeq (sSet [] 2 (eTup (aCons (eUn fNeg (eIxV 1 (eC (.int 0)))) (aCons (eIxV 1 (eC (.int 1))) (aNil))))) (sSeq (sIf (tNot' (tOf (eCallP (aCons (eLst (aCons (eCallP (aCons (eVar 0) (aCons (eVar 1) (aNil))) id f_plus) (aCons (eCallK aNil (aCons (eVar 1) (aCons (eVar 0) (aNil))) 2 0 pm_plus_0_b_a f_plus) (aNil)))) (aCons (eBin fMul (eLst (aCons (eCallP (aCons (eVar 0) (aCons (eVar 1) (aNil))) id f__law_plus) (aNil))) (eC (.int 2))) (aNil))) id (f__law_same 8)))) (sRet (eC (.bl false))) (sSkip)) (sSeq (sIf (tNot' (tOf (eCallP (aCons (eLst (aCons (eCallP (aCons (eVar 0) (aCons (eVar 1) (aNil))) id f_minus) (aCons (eCallK aNil (aCons (eVar 1) (aCons (eVar 0) (aNil))) 2 0 pm_minus_0_b_a f_minus) (aNil)))) (aCons (eBin fMul (eLst (aCons (eCallP (aCons (eVar 0) (aCons (eVar 2) (aNil))) id f__law_plus) (aNil))) (eC (.int 2))) (aNil))) id (f__law_same 8)))) (sRet (eC (.bl false))) (sSkip)) (sSeq (sIf (tNot' (tOf (eCallP (aCons (eLst (aCons (eCallP (aCons (eVar 0) (aCons (eVar 1) (aNil))) id f_times) (aCons (eCallK aNil (aCons (eVar 1) (aCons (eVar 0) (aNil))) 2 0 pm_times_0_b_a f_times) (aNil)))) (aCons (eBin fMul (eLst (aCons (eCallP (aCons (eVar 0) (aCons (eVar 1) (aNil))) id f__law_times) (aNil))) (eC (.int 2))) (aNil))) id (f__law_same 8)))) (sRet (eC (.bl false))) (sSkip)) (sSeq (sIf (tAnd' (tOf (eBin (fEq false) (eIxV 1 (eC (.int 0))) (eC (.int 0)))) (tNot' (tOf (eCallP (aCons (eLst (aCons (eCallP (aCons (eVar 0) (aCons (eVar 1) (aNil))) id f_by) (aCons (eCallK aNil (aCons (eVar 1) (aCons (eVar 0) (aNil))) 2 0 pm_by_0_b_a f_by) (aNil)))) (aCons (eBin fMul (eLst (aCons (eCallP (aCons (eBin fMul (eIxV 0 (eC (.int 0))) (eIxV 1 (eC (.int 1)))) (aCons (eBin fMul (eIxV 0 (eC (.int 1))) (eIxV 1 (eC (.int 0)))) (aNil))) id f__law_pair) (aNil))) (eC (.int 2))) (aNil))) id (f__law_same 8))))) (sRet (eC (.bl false))) (sSkip)) (sRet (eCallP (aCons (eLst (aCons (eCallP (aCons (eVar 0) (aCons (eVar 1) (aNil))) id f_below) (aCons (eCallK aNil (aCons (eVar 1) (aCons (eVar 0) (aNil))) 2 0 pm_below_0_b_a f_below) (aCons (eCallP (aCons (eVar 0) (aCons (eVar 0) (aNil))) id f_below) (aNil))))) (aCons (eBin fAdd (eBin fMul (eLst (aCons (eCallP (aCons (eVar 0) (aCons (eVar 1) (aNil))) id f__law_less) (aNil))) (eC (.int 2))) (eLst (aCons (eC (.bl false)) (aNil)))) (aNil))) id (f__law_same 8)))))))
def f__law_two_right : EvE := defEv 3 2 [] (r__law_two_right)
def r__law_power_right : EvS := sSeq (sSet [] 2 (eTup (aCons (eC (.int 1)) (aCons (eC (.int 1)) (aNil))))) (sSeq (sForI (putN [] 3) (iRng (eVar 1)) (sSet [] 2 (eCallP (aCons (eVar 2) (aCons (eVar 0) (aNil))) id f__law_times))) (sRet (eCallP (aCons (eLst (aCons (eCallP (aCons (eVar 0) (aCons (eVar 1) (aNil))) id f_power) (aCons (eCallK aNil (aCons (eVar 1) (aCons (eVar 0) (aNil))) 2 0 pm_power_0_n_a f_power) (aNil)))) (aCons (eLst (aCons (eVar 2) (aCons (eVar 2) (aNil)))) (aNil))) id (f__law_same 8))))
def f__law_power_right : EvE := defEv 4 2 [] (r__law_power_right)
def r__law_row_right : EvS := sSeq (sPar [0] 2 3 (aCons (eV1 fRepr 1) (aCons (eTup (aCons (eC (.int 0)) (aCons (eC (.int 1)) (aNil)))) (aNil)))) (sSeq (sForI (putN [0] 4) (iSeq (eVar 1)) (sSet [0] 3 (eCallP (aCons (eVar 3) (aCons (eVar 4) (aNil))) id f__law_plus))) (sSeq (sSet [0] 5 (eBin fIx (eLst (aCons (eVar 1) (aCons (eV1 fTuple 1) (aNil)))) (eCallA (.io 0 :: .v (eC (.int 2)) :: []) f__law_take))) (sSeq (sIf (tNot' (tOf (eCallP (aCons (eLst (aCons (eCallP (aCons (eVar 5) (aNil)) id f_total) (aCons (eCallK aNil (aCons (eVar 5) (aNil)) 1 0 pm_total_0_numbers f_total) (aNil)))) (aCons (eLst (aCons (eVar 3) (aCons (eVar 3) (aNil)))) (aNil))) id (f__law_same 8)))) (sRet (eC (.bl false))) (sSkip)) (sSeq (sIf (tOf (eBinV (fEq false) 1 (eLst (aNil)))) (sSeq (sUnp [0] [6, 7] (eTup (aCons (eCallP (aCons (eVar 5) (aNil)) id f_least) (aCons (eCallP (aCons (eVar 5) (aNil)) id f_greatest) (aNil))))) (sSeq (sIf (tOr' (tOf (eBin (fIn false) (eVar 6) (eVar 1))) (tOr' (tOf (eBin (fIn false) (eVar 7) (eVar 1))) (tNot' (tOf (eCallP (aCons (eLst (aCons (eCallK aNil (aCons (eVar 5) (aNil)) 1 0 pm_least_0_numbers f_least) (aCons (eCallK aNil (aCons (eVar 5) (aNil)) 1 0 pm_greatest_0_numbers f_greatest) (aNil)))) (aCons (eLst (aCons (eVar 6) (aCons (eVar 7) (aNil)))) (aNil))) id (f__law_same 8)))))) (sRet (eC (.bl false))) (sSkip)) (sSeq (sIf (tOf (eBin (fEq false) (eLc [4] (iSeq (eVar 1)) (putN [] 4) (tOr' (tOf (eCallP (aCons (eVar 4) (aCons (eVar 6) (aNil))) id f__law_less)) (tOf (eCallP (aCons (eVar 7) (aCons (eVar 4) (aNil))) id f__law_less))) (eVar 4)) (eLst (aNil)))) (sRet (eC (.bl false))) (sSkip)) (sIf (tNot' (tOf (eCallP (aCons (eLst (aCons (eVar 6) (aCons (eVar 7) (aNil)))) (aCons (eLst (aCons (eIxV 1 (eIndexV 1 (eVar 6))) (aCons (eIxV 1 (eIndexV 1 (eVar 7))) (aNil)))) (aNil))) id (f__law_same 8)))) (sRet (eC (.bl false))) (sSkip))))) (sSkip)) (sRet (eBin (fEq true) (eV1 fRepr 1) (eVar 2)))))))
def f__law_row_right : EvE := defEv 8 2 [0] (r__law_row_right)
def r__law_right (cl : Nat → Addr) : EvS := sSeq (sPar3 [0] 1 2 3 (aCons (eCallA (.io 0 :: []) f__law_couple) (aCons (eCallA (.io 0 :: []) f__law_own) (aCons (eCallA (.io 0 :: []) f__law_own) (aNil))))) (sSeq (sIf (tOf (eBin (fEq true) (eCallA (.io 0 :: .v (eC (.int 4)) :: []) f__law_take) (eC (.int 0)))) (sSet [0] 3 (eCallP (aCons (eVar 2) (aCons (eCallP (aCons (eBin fSub (eCallA (.io 0 :: .v (eC (.int 3)) :: []) f__law_take) (eC (.int 1))) (aCons (eBin fMul (eIxV 2 (eC (.int 1))) (eBin fAdd (eC (.int 1)) (eCallA (.io 0 :: .v (eC (.int 3)) :: []) f__law_take))) (aNil))) id f__law_pair) (aNil))) id f__law_plus)) (sSkip)) (sSeq (sIf (tNot' (tOf (eCallP (aCons (eLst (aCons (eCallP (aCons (eVar 1) (aNil)) id f_is_number) (aCons (eCallK aNil (aCons (eVar 1) (aNil)) 1 0 pm_is_number_0_told f_is_number) (aCons (eCallP (aCons (eVar 2) (aNil)) id f_is_number) (aNil))))) (aCons (eBin fAdd (eBin fMul (eLst (aCons (eCallP (aCons (eVar 1) (aNil)) id f__law_is) (aNil))) (eC (.int 2))) (eLst (aCons (eC (.bl true)) (aNil)))) (aNil))) id (f__law_same 8)))) (sRet (eC (.bl false))) (sSkip)) (sSeq (sIf (tOf (eBin (fEq false) (eIxV 1 (eC (.int 1))) (eC (.int 0)))) (sSeq (sSet [0] 4 (eCallP (aCons (eIxV 1 (eC (.int 0))) (aCons (eIxV 1 (eC (.int 1))) (aNil))) id f__law_pair)) (sIf (tNot' (tOf (eCallP (aCons (eLst (aCons (eCallP (aCons (eIxV 1 (eC (.int 0))) (aCons (eIxV 1 (eC (.int 1))) (aNil))) id f_number) (aCons (eCallK aNil (aCons (eIxV 1 (eC (.int 1))) (aCons (eIxV 1 (eC (.int 0))) (aNil))) 2 0 pm_number_0_bottom_top f_number) (aNil)))) (aCons (eLst (aCons (eVar 4) (aCons (eVar 4) (aNil)))) (aNil))) id (f__law_same 8)))) (sRet (eC (.bl false))) (sSkip))) (sSkip)) (sSeq (sSet [0] 5 (eBin (fEq true) (eCallA (.io 0 :: .v (eC (.int 2)) :: []) f__law_take) (eC (.int 1)))) (sSeq (sIf (tNot' (tOf (eCallP (aCons (eLst (aCons (eCallP (aCons (eC (.int 0)) (aCons (eVar 2) (aCons (eVar 5) (aNil)))) id (f__law_divided cl)) (aCons (eCallP (aCons (eC (.int 1)) (aCons (eVar 2) (aCons (eVar 5) (aNil)))) id (f__law_divided cl)) (aNil)))) (aCons (eLst (aCons (eLst (aCons (eC (.str "zero")) (aCons (eIxV 2 (eC (.int 0))) (aNil)))) (aCons (eLst (aCons (eC (.str "zero")) (aCons (eVar 2) (aNil)))) (aNil)))) (aNil))) id (f__law_same 8)))) (sRet (eC (.bl false))) (sSkip)) (sSeq (sIf (tOr' (tNot' (tOf (eCallP (aCons (eCallA (.io 0 :: []) f__law_small) (aCons (eCallA (.io 0 :: .v (eC (.int 41)) :: []) f__law_take) (aNil))) id f__law_power_right))) (tNot' (tOf (eCallP (aCons (eVar 3) (aCons (eCallA (.io 0 :: .v (eC (.int 4)) :: []) f__law_take) (aNil))) id f__law_power_right)))) (sRet (eC (.bl false))) (sSkip)) (sSeq (sSet [0] 6 (eLc [7] (iRng (eCallA (.io 0 :: .v (eC (.int 12)) :: []) f__law_take)) (putN [] 7) (tTrue) (eBin fIx (eLst (aCons (eCallA (.io 0 :: []) f__law_small) (aCons (eCallA (.io 0 :: []) f__law_own) (aNil)))) (eBin fDiv (eCallA (.io 0 :: .v (eC (.int 5)) :: []) f__law_take) (eC (.int 4)))))) (sSeq (sIf (tAnd' (tOf (eBinV (fEq false) 6 (eLst (aNil)))) (tOf (eBin (fEq true) (eCallA (.io 0 :: .v (eC (.int 3)) :: []) f__law_take) (eC (.int 0))))) (sApp 6 (eIxV 6 (eCallA (.io 0 :: .v (eV1 fLen 6) :: []) f__law_take))) (sSkip)) (sRet (eAnd (eCallP (aCons (eVar 2) (aCons (eVar 3) (aNil))) id f__law_two_right) (eAnd (eCallP (aCons (eVar 3) (aCons (eVar 2) (aNil))) id f__law_two_right) (eCallA (.io 0 :: .v (eVar 6) :: []) f__law_row_right))))))))))))
def f__law_right (cl : Nat → Addr) : EvE := defEv 8 1 [0] (r__law_right cl)
def r_law (cl : Nat → Addr) : EvS := sSeq (sForI (putN [] 1) (iRng (eBin fMax2 (eC (.int 3)) (eBin fMin2 (eV1 fLen 0) (eC (.int 30))))) (sIf (tNot' (tOf (eCallA (.tmp (eCallP (aCons (eVar 0) (aCons (eVar 1) (aNil))) id f__law_deck) :: []) (f__law_right cl)))) (sRet (eC (.bl false))) (sSkip))) (sSeq (sForI (putN [] 2) (iSeq (eLst (aCons (eTup (aCons (eC (.int 0)) (aCons (eC (.int 1)) (aNil)))) (aCons (eTup (aCons (eC (.int 0)) (aCons (eC (.int 2)) (aNil)))) (aCons (eTup (aCons (eC (.int 0)) (aCons (eUn fNeg (eC (.int 1))) (aNil)))) (aCons (eTup (aCons (eC (.int 0)) (aCons (eC (.int 0)) (aNil)))) (aCons (eTup (aCons (eC (.int 1)) (aCons (eC (.int 0)) (aNil)))) (aCons (eTup (aCons (eUn fNeg (eC (.int 1))) (aCons (eC (.int 1)) (aNil)))) (aCons (eTup (aCons (eC (.int 1)) (aCons (eUn fNeg (eC (.int 1))) (aNil)))) (aCons (eTup (aCons (eC (.int 2)) (aCons (eC (.int 4)) (aNil)))) (aCons (eTup (aCons (eC (.int 3)) (aCons (eC (.int 9)) (aNil)))) (aCons (eTup (aCons (eC (.int 4)) (aCons (eC (.int 9)) (aNil)))) (aNil))))))))))))) (sIf (tNot' (tOf (eCallP (aCons (eCallP (aCons (eVar 2) (aNil)) id f_is_number) (aCons (eCallP (aCons (eVar 2) (aNil)) id f__law_is) (aNil))) id (f__law_same 8)))) (sRet (eC (.bl false))) (sSkip))) (sRet (eCallA (.tmp (eLst (aCons (eC (.int 0)) (aCons (eC (.int 7)) (aNil)))) :: .v (eLst (aNil)) :: []) f__law_row_right)))
def f_law (cl : Nat → Addr) : EvE := defEv 3 1 [] (r_law cl)
end G
end

end

section
set_option Elab.async false
set_option linter.all false
set_option maxRecDepth 100000
set_option maxHeartbeats 2000000
noncomputable section
namespace G
open PySem L2 TX
abbrev N (p q : Int) : D := .tup [.int p, .int q]
theorem run_is_less (a b c d : Int) (h1 : mOk a d) (h2 : mOk c b) : f__is_less [.pu (N a b), .pu (N c d)] = .ok (.bl (decide (a * d < c * b)), false) [.pu (N a b), .pu (N c d)] := by
  apply def_rt rfl rfl
  · unfold r__is_less
    walk_at "ev"
  · exact rfl
theorem run_law_less (a b c d : Int) (h1 : mOk a d) (h2 : mOk c b) : f__law_less [.pu (N a b), .pu (N c d)] = .ok (.bl (decide (a * d - c * b < 0)), false) [.pu (N a b), .pu (N c d)] := by
  apply def_rt rfl rfl
  · unfold r__law_less
    walk_at "ev"
  · exact rfl
/-- the gcd with the sign of the bottom -/
def sgcd (p q : Int) : Int := if q < 0 then -(Nat.gcd p.natAbs q.natAbs : Int) else (Nat.gcd p.natAbs q.natAbs : Int)
theorem run_number (p q : Int) (h : q ≠ 0) (hs : q.natAbs.log2 < 9000) (hg : sgcd p q ≠ 0 ∧ (sgcd p q).natAbs.log2 < 9000) : f_number [.pu (.int p), .pu (.int q)] = .ok (N (p.fdiv (sgcd p q)) (q.fdiv (sgcd p q)), false) [.pu (.int p), .pu (.int q)] := by
  apply def_rt rfl rfl
  · unfold r_number
    apply sSeq_r
    · apply sIf_r (c := false)
      · walk_at "ev"
      · exact rfl
    · apply sSeq_r
      · walk_at "ev"
      · apply sSeq_r (st1 := [.pu (.int p), .pu (.int q), .pu (.int (sgcd p q))])
        · apply sIf_r (c := decide (q < 0))
          · walk_at "ev"
          · by_cases hq : q < 0
            · rw [if_pos (decide_eq_true hq)]
              have e : sgcd p q = -(Nat.gcd p.natAbs q.natAbs : Int) := if_pos hq
              rw [e]
              walk_at "ev"
            · rw [if_neg (by simp [hq])]
              have e : sgcd p q = (Nat.gcd p.natAbs q.natAbs : Int) := if_neg hq
              rw [e]
              walk_at "ev"
        · walk_at "ev"
  · exact rfl
/-- a deck -/
def Dk (l : List D) : Prop := ∃ a b : Int, l = [.int a, .int b] ∧ 0 ≤ b ∧ b < 2 ^ 64
theorem log2_lt {n : Nat} {k : Nat} (h : n < 2 ^ k) (hk : 0 < k) : n.log2 < k := by
  by_cases h0 : n = 0
  · subst h0; simpa using hk
  · exact (Nat.log2_lt h0).mpr h
theorem run_take {l : List D} (hl : Dk l) (many : Int) (hm : 0 < many) (hs : many.natAbs.log2 < 9000) :
    ∃ (r : Int) (l' : List D), f__law_take [.ow l, .pu (.int many)] = .ok (.int r, false) [.ow l', .pu (.int many)] ∧ 0 ≤ r ∧ r < many ∧ Dk l' := by
  obtain ⟨a, b, rfl, hb1, hb2⟩ := hl
  have hn : many ≠ 0 := by omega
  by_cases ha : 0 < a
  · refine ⟨a.fmod many, [.int (a.fdiv many), .int b], ?_, Int.fmod_nonneg_of_pos a hm, Int.fmod_lt_of_pos a hm, _, _, rfl, hb1, hb2⟩
    apply def_rt rfl rfl
    · unfold r__law_take
      apply sSeq_rt
      apply sIf_r (c := true)
      · walk_at "ev"
      · rw [if_pos rfl]
        apply sSeq_r
        · walk_at "ev"
        · apply sSeq_r
          · apply sItem_r
            walk_at "ev"
          · exact rfl
    · exact rfl
  · refine ⟨_, [.int a, .int ((b * 6364136223846793005 + 1442695040888963407).fmod (2 ^ (Int.toNat 64)))], ?_, Int.fmod_nonneg_of_pos (((b * 6364136223846793005 + 1442695040888963407).fmod (2 ^ (Int.toNat 64))).fdiv (2 ^ (Int.toNat 33))) hm, Int.fmod_lt_of_pos _ hm, _, _, rfl, Int.fmod_nonneg_of_pos _ (by decide), Int.fmod_lt_of_pos _ (by decide)⟩
    have hb : mOk b 6364136223846793005 := by
      have h1 : b.natAbs.log2 < 64 := log2_lt (by omega) (by decide)
      show b.natAbs.log2 + (6364136223846793005 : Nat).log2 < 1000000
      have h2 : (6364136223846793005 : Nat).log2 = 62 := by decide +kernel
      rw [h2]
      omega
    apply def_rt rfl rfl
    · unfold r__law_take
      apply sSeq_r
      · apply sIf_r (c := false)
        · apply tOf_r
          · walk_at "ev"
          · simp [ha]
        · exact rfl
      · apply sSeq_r
        · apply sItem_r
          walk_at "ev"
        · walk_at "ev"
    · exact rfl

theorem mOk_of {a b : Int} {i j : Nat} (ha : a.natAbs < 2 ^ i) (hb : b.natAbs < 2 ^ j) (hi : 0 < i) (hj : 0 < j) (h : i + j ≤ 1000000) : mOk a b := by
  have h1 := log2_lt ha hi
  have h2 := log2_lt hb hj
  show _ + _ < _
  omega
theorem atI_scr {ns : List Int} {k : Int} (h0 : 0 ≤ k) (h1 : k < ns.length) : ∃ c, atI ns k = some c := by
  have hk : k.toNat < ns.length := by omega
  refine ⟨ns[k.toNat], ?_⟩
  unfold atI ixN
  simp [h0, h1]
theorem run_deck (ns : List Int) (k : Int) (h0 : 0 ≤ k) (hk : k ≤ 100000) : ∃ l : List D, f__law_deck [.pu (.scr ns), .pu (.int k)] = .ok (.lst l, true) [.pu (.scr ns), .pu (.int k)] ∧ Dk l := by
  obtain ⟨c, hc⟩ : ∃ c : Int, sIf (tOf (eBin fLt (eVar 1) (eV1 fLen 0))) (sSet [] 2 (eIxV 0 (eVar 1))) sSkip [.pu (.scr ns), .pu (.int k), .pu (.int 0), .un] = .nx [.pu (.scr ns), .pu (.int k), .pu (.int c), .un] := by
    by_cases h : k < ns.length
    · obtain ⟨c, e⟩ := atI_scr h0 h
      refine ⟨c, ?_⟩
      apply sIf_r (c := true)
      · walk_at "ev"
      · rw [if_pos rfl]
        walk_at "ev"
    · refine ⟨0, ?_⟩
      apply sIf_r (c := false)
      · walk_at "ev"
      · exact rfl
  have m1 : mOk 7919 k := mOk_of (i := 13) (j := 17) (by decide) (by omega) (by decide) (by decide) (by decide)
  have g : ∀ x : Int, 0 ≤ x.fmod 2305843009213693951 ∧ x.fmod 2305843009213693951 < 2305843009213693951 := fun x => ⟨Int.fmod_nonneg_of_pos _ (by decide), Int.fmod_lt_of_pos _ (by decide)⟩
  generalize hs : (c + 7919 * k + 104729).fmod 2305843009213693951 = s
  have gs : 0 ≤ s ∧ s < 2305843009213693951 := by rw [← hs]; exact g _
  have m2 : mOk s s := mOk_of (i := 61) (j := 61) (by omega) (by omega) (by decide) (by decide) (by decide)
  have m3 : mOk (s * s) s := mOk_of (i := 122) (j := 61) (by
    rw [Int.natAbs_mul]
    have : s.natAbs < 2 ^ 61 := by omega
    calc s.natAbs * s.natAbs < 2 ^ 61 * 2 ^ 61 := Nat.mul_lt_mul'' this this
      _ = 2 ^ 122 := by decide) (by omega) (by decide) (by decide) (by decide)
  have m4 : mOk 31 k := mOk_of (i := 5) (j := 17) (by decide) (by omega) (by decide) (by decide) (by decide)
  generalize hs2 : (s * s * s + 31 * k + 7).fmod 2305843009213693951 = s2
  have gs2 : 0 ≤ s2 ∧ s2 < 2305843009213693951 := by rw [← hs2]; exact g _
  by_cases hc2 : c < 10 ^ (Int.toNat 18)
  · refine ⟨[.int 0, .int s2], ?_, _, _, rfl, gs2.1, by omega⟩
    apply def_rt rfl rfl
    · unfold r__law_deck
      apply sSeq_r
      · walk_at "ev"
      · apply sSeq_r
        · exact hc
        · apply sSeq_r (st1 := [.pu (.scr ns), .pu (.int k), .pu (.int c), .pu (.int s)])
          · rw [← hs]; walk_at "ev"
          · apply sSeq_r (st1 := [.pu (.scr ns), .pu (.int k), .pu (.int c), .pu (.int s2)])
            · rw [← hs2]; walk_at "ev"
            · apply sSeq_rt
              apply sIf_r (c := true)
              · apply tOf_r
                · walk_at "ev"
                · show D.bl (decide (c < 10 ^ (Int.toNat 18))) = _; rw [decide_eq_true hc2]
              · rw [if_pos rfl]
                walk_at "ev"
    · exact rfl
  · refine ⟨[.int (c - 10 ^ (Int.toNat 18)), .int s2], ?_, _, _, rfl, gs2.1, by omega⟩
    apply def_rt rfl rfl
    · unfold r__law_deck
      apply sSeq_r
      · walk_at "ev"
      · apply sSeq_r
        · exact hc
        · apply sSeq_r (st1 := [.pu (.scr ns), .pu (.int k), .pu (.int c), .pu (.int s)])
          · rw [← hs]; walk_at "ev"
          · apply sSeq_r (st1 := [.pu (.scr ns), .pu (.int k), .pu (.int c), .pu (.int s2)])
            · rw [← hs2]; walk_at "ev"
            · apply sSeq_r
              · apply sIf_r (c := false)
                · apply tOf_r
                  · walk_at "ev"
                  · show D.bl (decide (c < 10 ^ (Int.toNat 18))) = _; rw [decide_eq_false hc2]
                · exact rfl
              · walk_at "ev"
    · exact rfl
end G

end

section
set_option Elab.async false
set_option linter.all false
set_option maxRecDepth 100000
set_option maxHeartbeats 2000000
noncomputable section
namespace G
open PySem L2 TX
theorem gcd_loop : ∀ (v u : Nat), ∃ n, sWhN (tOf (eBinV (fEq false) 1 (eC (.int 0)))) (sPar [] 0 1 (aCons (eVar 1) (aCons (eBin fMod (eV1 fInt 0) (eVar 1)) aNil))) n [.pu (.int (u : Int)), .pu (.int (v : Int))] = .nx [.pu (.int ((Nat.gcd u v : Nat) : Int)), .pu (.int 0)] := by
  intro v
  induction v using Nat.strongRecOn with
  | _ v ih =>
    intro u
    by_cases h : v = 0
    · subst h
      refine ⟨1, ?_⟩
      rw [Nat.gcd_zero_right]
      apply sWhN_f
      walk_at "ev"
    · obtain ⟨n, hn⟩ := ih (u % v) (Nat.mod_lt _ (by omega)) v
      refine ⟨n + 1, ?_⟩
      have hv : (v : Int) ≠ 0 := by omega
      have e : Nat.gcd u v = Nat.gcd v (u % v) := by rw [Nat.gcd_comm u v, Nat.gcd_rec v u, Nat.gcd_comm]
      have e2 : (u : Int).fmod (v : Int) = ((u % v : Nat) : Int) := by rw [Int.fmod_eq_emod_of_nonneg _ (by omega)]; omega
      rw [e]
      apply sWhN_t (s := [.pu (.int (v : Int)), .pu (.int ((u % v : Nat) : Int))])
      · apply tOf_r
        · walk_at "ev"
        · show D.bl (!decide ((v : Int) = 0)) = _
          rw [decide_eq_false hv]
          rfl
      · rw [← e2]
        walk_at "ev"
      · exact hn
theorem run_gcd (u v : Nat) : f__law_gcd [.pu (.int (u : Int)), .pu (.int (v : Int))] = .ok (.int ((Nat.gcd u v : Nat) : Int), false) [.pu (.int (u : Int)), .pu (.int (v : Int))] := by
  obtain ⟨n, hn⟩ := gcd_loop v u
  apply def_rt rfl rfl
  · unfold r__law_gcd
    apply sSeq_r
    · exact sWh_eq hn (by simp)
    · exact rfl
  · exact rfl
/-- a pair in lowest terms, its bottom above 0 -/
def nm (p q : Int) : D := N (p.fdiv (sgcd p q)) (q.fdiv (sgcd p q))
theorem sgcd_ne {p q : Int} (h : q ≠ 0) : sgcd p q ≠ 0 := by
  have : Nat.gcd p.natAbs q.natAbs ≠ 0 := by
    intro e
    have := Nat.eq_zero_of_gcd_eq_zero_right e
    omega
  unfold sgcd
  split <;> omega
theorem sgcd_le {p q : Int} (h : q ≠ 0) : (sgcd p q).natAbs ≤ q.natAbs := by
  have := Nat.gcd_le_right p.natAbs (n := q.natAbs) (by omega)
  unfold sgcd
  split <;> omega
theorem log2_mono {a b : Nat} (h : a ≤ b) : a.log2 ≤ b.log2 := by
  by_cases ha : a = 0
  · subst ha; simp
  · exact (Nat.le_log2 (by omega)).mpr (Nat.le_trans (Nat.log2_self_le ha) h)
theorem run_num {p q : Int} (h : q ≠ 0) (hs : q.natAbs.log2 < 9000) : f_number [.pu (.int p), .pu (.int q)] = .ok (nm p q, false) [.pu (.int p), .pu (.int q)] :=
  run_number p q h hs ⟨sgcd_ne h, Nat.lt_of_le_of_lt (log2_mono (sgcd_le h)) hs⟩
theorem run_pair {p q : Int} (h : q ≠ 0) (hs : q.natAbs.log2 < 9000) : f__law_pair [.pu (.int p), .pu (.int q)] = .ok (nm p q, false) [.pu (.int p), .pu (.int q)] := by
  have hg : sgcd p q ≠ 0 ∧ (sgcd p q).natAbs.log2 < 9000 := ⟨sgcd_ne h, Nat.lt_of_le_of_lt (log2_mono (sgcd_le h)) hs⟩
  have ha : ∀ x : Int, (if x < 0 then -x else x) = (x.natAbs : Int) := fun x => by split <;> omega
  apply def_rt rfl rfl
  · unfold r__law_pair
    apply sSeq_r (st1 := [.pu (.int p), .pu (.int q), .pu (.int ((Nat.gcd p.natAbs q.natAbs : Nat) : Int))])
    · apply sSet_r
      · apply eCallP_r (ds := [.int (p.natAbs : Int), .int (q.natAbs : Int)])
        · rw [← ha p, ← ha q]
          walk_at "ev"
        · exact run_gcd _ _
      · walk_at "ev"
    · apply sSeq_r (st1 := [.pu (.int p), .pu (.int q), .pu (.int (sgcd p q))])
      · apply sIf_r (c := decide (q < 0))
        · walk_at "ev"
        · by_cases hq : q < 0
          · rw [if_pos (decide_eq_true hq)]
            have e : sgcd p q = -(Nat.gcd p.natAbs q.natAbs : Int) := if_pos hq
            rw [e]
            walk_at "ev"
          · rw [if_neg (by simp [hq])]
            have e : sgcd p q = (Nat.gcd p.natAbs q.natAbs : Int) := if_neg hq
            rw [e]
            walk_at "ev"
      · walk_at "ev"
  · exact rfl
end G
end

end

section
set_option Elab.async false
set_option linter.all false
set_option maxRecDepth 100000
set_option maxHeartbeats 2000000
noncomputable section
namespace G
open PySem L2 TX
/-- a number -/
def Nb (p q : Int) : Prop := 0 < q ∧ Nat.gcd p.natAbs q.natAbs = 1
instance (p q : Int) : Decidable (Nb p q) := inferInstanceAs (Decidable (_ ∧ _))
theorem run_whole (p : Int) : f_is_whole [.pu (.int p)] = .ok (.bl true, false) [.pu (.int p)] := by
  apply def_rt (st := [.pu (.int p)]) rfl rfl
  · unfold r_is_whole
    apply sRet_r
    apply eAnd_r (c := true)
    · walk_at "ev"
    · rfl
    · rw [if_pos rfl]
      walk_at "ev"
  · exact rfl
theorem run_isnum (p q : Int) : f_is_number [.pu (N p q)] = .ok (.bl (decide (Nb p q)), false) [.pu (N p q)] := by
  apply def_rt rfl rfl
  · unfold r_is_number
    apply sSeq_r
    · apply sIf_r (c := false)
      · apply tOr_r (c := false)
        · walk_at "ev"
        · rw [if_neg (by decide)]
          walk_at "ev"
      · exact rfl
    · apply sSeq_r (st1 := [.pu (N p q), .pu (.int p), .pu (.int q)])
      · apply sUnp_r
        · walk_at "ev"
        · exact rfl
      · apply sRet_r
        apply eAnd_r (c := true)
        · apply eCallP_r
          · walk_at "ev"
          · exact run_whole p
        · rfl
        · rw [if_pos rfl]
          apply eAnd_r (c := true)
          · apply eCallP_r
            · walk_at "ev"
            · exact run_whole q
          · rfl
          · rw [if_pos rfl]
            apply eAnd_r (c := decide (0 < q))
            · walk_at "ev"
            · rfl
            · by_cases h : 0 < q
              · rw [if_pos (decide_eq_true h)]
                have e : decide (Nb p q) = decide (((Nat.gcd p.natAbs q.natAbs : Nat) : Int) = 1) := by
                  unfold Nb
                  have : (0 < q ∧ Nat.gcd p.natAbs q.natAbs = 1) ↔ ((Nat.gcd p.natAbs q.natAbs : Nat) : Int) = 1 := by constructor <;> intro z <;> omega
                  exact decide_eq_decide.mpr this
                rw [e]
                walk_at "ev"
              · rw [if_neg (by simp [h])]
                have e : decide (Nb p q) = false := decide_eq_false fun z => h z.1
                rw [e]
  · exact rfl
/-- each of these is a number -/
theorem run_checkL : ∀ (l : List (Int × Int)) (d x : Sl), (∀ u ∈ l, Nb u.1 u.2) → ∃ y, sFor (putN [] 1) (sIf (tNot' (tOf (eCallP (aCons (eVar 1) aNil) id f_is_number))) (sRaise 1 (eVar 1)) sSkip) (l.map fun u => N u.1 u.2) [d, x] = .nx [d, y]
  | [], d, x, _ => ⟨x, rfl⟩
  | (p, q) :: l, d, x, h => by
    obtain ⟨y, hy⟩ := run_checkL l d (.pu (N p q)) fun u hu => h u (List.mem_cons_of_mem _ hu)
    refine ⟨y, ?_⟩
    apply sFor_cons (st1 := [d, .pu (N p q)])
    · exact rfl
    · apply sIf_r (c := false)
      · have hn : decide (Nb p q) = true := decide_eq_true (h (p, q) List.mem_cons_self)
        have := run_isnum p q
        rw [hn] at this
        apply tNot_r (c := true)
        apply tOf_r
        · apply eCallP_r
          · walk_at "ev"
          · exact this
        · rfl
      · exact rfl
    · exact hy
theorem run_check2 (a b c d : Int) (h1 : Nb a b) (h2 : Nb c d) : f__check_all [.pu (.tup [N a b, N c d])] = .ok (.non, false) [.pu (.tup [N a b, N c d])] := by
  obtain ⟨y, hy⟩ := run_checkL [(a, b), (c, d)] (.pu (.tup [N a b, N c d])) .un (by
    intro u hu
    simp at hu
    rcases hu with rfl | rfl
    · exact h1
    · exact h2)
  apply def_nx rfl rfl
  · unfold r__check_all
    apply sForI_r
    · apply iSeq_t
      walk_at "ev"
    · exact hy
  · exact rfl
theorem run_plus (a b c d : Int) (h1 : Nb a b) (h2 : Nb c d) (s1 : mOk a d) (s2 : mOk c b) (s3 : mOk b d) (hs : (b * d).natAbs.log2 < 9000) : f_plus [.pu (N a b), .pu (N c d)] = .ok (nm (a * d + c * b) (b * d), false) [.pu (N a b), .pu (N c d)] := by
  have hb : b * d ≠ 0 := Int.mul_ne_zero (by have := h1.1; omega) (by have := h2.1; omega)
  apply def_rt rfl rfl
  · unfold r_plus
    apply sSeq_r
    · apply sDrop_r
      apply eCallP_r
      · walk_at "ev"
      · exact run_check2 a b c d h1 h2
    · apply sRet_r
      apply eCallP_r
      · walk_at "ev"
      · exact run_num hb hs
  · exact rfl
end G
end

end

section
set_option Elab.async false
set_option linter.all false
set_option maxRecDepth 100000
set_option maxHeartbeats 2000000
noncomputable section
namespace G
open PySem L2 TX
/-- trees that the law compares, at most k deep -/
inductive Pt : Nat → D → Prop
  | non (k : Nat) : Pt k .non
  | bl (k : Nat) (b : Bool) : Pt k (.bl b)
  | int (k : Nat) (i : Int) : Pt k (.int i)
  | str (k : Nat) (x : Str) : (PyData.str x).canLay0 = true → Pt k (.str x)
  | tup (k : Nat) (ds : List D) : ds.length ≤ 100000 → (∀ (i : Nat) (h : i < ds.length), Pt k ds[i]) → Pt (k + 1) (.tup ds)
  | lst (k : Nat) (ds : List D) : ds.length ≤ 100000 → (∀ (i : Nat) (h : i < ds.length), Pt k ds[i]) → Pt (k + 1) (.lst ds)
abbrev sameT (me : EvE) : EvT := tNot' (tOf (eCallP (aCons (eIxV 0 (eVar 2)) (aCons (eIxV 1 (eVar 2)) aNil)) id me))
theorem same_loop {me : EvE} {d : D} {ds : List D} (hd : ∀ (i : Nat) (h : i < ds.length), fIx d (.int (i : Int)) = some (ds[i], false)) (ih : ∀ (i : Nat) (h : i < ds.length), me [.pu ds[i], .pu ds[i]] = .ok (.bl true, false) [.pu ds[i], .pu ds[i]]) :
    ∀ (ks : List Nat) (x : Sl), (∀ ds', x ≠ .ow ds') → (∀ k ∈ ks, k < ds.length) → ∃ y, cLoop [2] (putN [] 2) (sameT me) (eVar 2) (ks.map fun (k : Nat) => .int (0 + (k : Int))) [.pu d, .pu d, x] = .ok [] [.pu d, .pu d, y]
  | [], x, _, _ => ⟨x, rfl⟩
  | k :: ks, x, hx, h => by
    have hk := h k List.mem_cons_self
    obtain ⟨y, hy⟩ := same_loop hd ih ks (.pu (.int (0 + (k : Int)))) (fun _ z => by cases z) fun j hj => h j (List.mem_cons_of_mem _ hj)
    refine ⟨y, ?_⟩
    have e0 : (0 : Int) + (k : Int) = (k : Int) := Int.zero_add _
    have hi := hd k hk
    rw [← e0] at hi
    apply cLoop_f (st1 := [.pu d, .pu d, .pu (.int (0 + (k : Int)))]) (st2 := [.pu d, .pu d, .pu (.int (0 + (k : Int)))])
    · exact rfl
    · apply tNot_r (c := true)
      apply tOf_r (x := (.bl true, false))
      · apply eCallP_r (ds := [ds[k], ds[k]])
        · apply aCons_r
          · apply eIxV_r (d0 := d)
            · exact rfl
            · walk_at "ev"
            · exact rfl
            · exact hi
          · apply aCons_r
            · apply eIxV_r (d0 := d)
              · exact rfl
              · walk_at "ev"
              · exact rfl
              · exact hi
            · exact aNil_r
            · exact rfl
          · exact rfl
        · exact ih k hk
      · rfl
    · exact rfl
    · exact hy
theorem same_seq {me : EvE} {d : D} {ds : List D} (h0 : fLen d = some (.int (ds.length : Int), false)) (hl : ds.length ≤ 100000) (hd : ∀ (i : Nat) (h : i < ds.length), fIx d (.int (i : Int)) = some (ds[i], false))
    (ih : ∀ (i : Nat) (h : i < ds.length), me [.pu ds[i], .pu ds[i]] = .ok (.bl true, false) [.pu ds[i], .pu ds[i]]) :
    eLc [2] (iRng (eV1 fLen 1)) (putN [] 2) (sameT me) (eVar 2) [.pu d, .pu d, .un] = .ok (.lst [], true) [.pu d, .pu d, .un] := by
  obtain ⟨y, hy⟩ := same_loop hd ih (List.range ds.length) .un (fun _ z => by cases z) fun k hk => List.mem_range.mp hk
  apply eLc_r (st1 := [.pu d, .pu d, .un])
  · apply iRng_r
    · apply eV1_r
      · exact rfl
      · exact h0
    · omega
  · refine ⟨rfl, ?_⟩
    unfold rngD
    simp
    exact hl
  · unfold rngD
    rw [Int.toNat_natCast]
    exact hy
  · exact rfl
  · exact rfl
theorem eqv_str (x : Str) : PyData.eqv (.str x) (.str x) = true := by
  first | rfl | (simp [PyData.eqv]; done) | (unfold PyData.eqv; simp)
theorem eqv_bl (b : Bool) : PyData.eqv (.bool b) (.bool b) = true := by cases b <;> first | rfl | (simp [PyData.eqv]; done)
theorem fEq_str (x : Str) (h : (PyData.str x).canLay0 = true) : fEq true (.str x) (.str x) = some (.bl true, false) := by
  have hs : SeqAt.shaped (PyData.str x) = true := by unfold SeqAt.shaped; rw [h]; rfl
  show (if (SeqAt.shaped (PyData.str x) && SeqAt.shaped (PyData.str x)) = true then some (D.bl (PyData.eqv (.str x) (.str x) == true), false) else none) = _
  rw [hs, eqv_str]; rfl
theorem fEq_bl (b : Bool) : fEq true (.bl b) (.bl b) = some (.bl true, false) := by
  show some (D.bl (PyData.eqv (.bool b) (.bool b) == true), false) = _
  rw [eqv_bl]; rfl
abbrev at3 (d : D) : List Sl := [.pu d, .pu d, .un]
/-- no list, no tuple: the first if is passed -/
theorem run_same0 (k : Nat) : ∀ d : D, Pt 0 d → f__law_same (k + 1) [.pu d, .pu d] = .ok (.bl true, false) [.pu d, .pu d]
  | _, .non _ => rfl
  | _, .bl _ b => by cases b <;> rfl
  | _, .int _ i => by
    apply def_rt (st := [.pu (.int i), .pu (.int i)]) rfl rfl
    · unfold r__law_same
      apply sSeq_r
      · apply sIf_r (c := false)
        · walk_at "ev"
        · exact rfl
      · apply sSeq_r
        · apply sIf_r (c := false)
          · walk_at "ev"
          · exact rfl
        · apply sSeq_r
          · apply sIf_r (c := false)
            · walk_at "ev"
            · exact rfl
          · apply sSeq_r
            · apply sIf_r (c := false)
              · apply tOr_r (c := false)
                · walk_at "ev"
                · rw [if_neg (by decide)]; walk_at "ev"
              · exact rfl
            · apply sRet_r
              apply eAnd_r (c := true)
              · walk_at "ev"
              · rfl
              · rw [if_pos rfl]
                apply eBinV_r
                · exact rfl
                · walk_at "ev"
                · exact rfl
                · rw [fEqI_r]; simp
    · exact rfl
  | _, .str _ x hx => by
    apply def_rt (st := [.pu (.str x), .pu (.str x)]) rfl rfl
    · unfold r__law_same
      apply sSeq_r
      · apply sIf_r (c := false)
        · walk_at "ev"
        · exact rfl
      · apply sSeq_r
        · apply sIf_r (c := false)
          · walk_at "ev"
          · exact rfl
        · apply sSeq_rt
          · apply sIf_r (c := true)
            · walk_at "ev"
            · rw [if_pos rfl]
              apply sRet_r
              apply eAnd_r (c := true)
              · walk_at "ev"
              · rfl
              · rw [if_pos rfl]
                apply eBinV_r
                · exact rfl
                · walk_at "ev"
                · exact rfl
                · exact fEq_str x hx
    · exact rfl
theorem pt_mono {k : Nat} {d : D} (h : Pt k d) : ∀ j, k ≤ j → Pt j d := by
  induction h with
  | non => exact fun j _ => .non j
  | bl k b => exact fun j _ => .bl j b
  | int k i => exact fun j _ => .int j i
  | str k x h => exact fun j _ => .str j x h
  | tup k ds hl h ih =>
    intro j hj
    obtain ⟨m, rfl⟩ : ∃ m, j = m + 1 := ⟨j - 1, by omega⟩
    exact .tup m ds hl fun i hi => ih i hi m (by omega)
  | lst k ds hl h ih =>
    intro j hj
    obtain ⟨m, rfl⟩ : ∃ m, j = m + 1 := ⟨j - 1, by omega⟩
    exact .lst m ds hl fun i hi => ih i hi m (by omega)
theorem run_same1 (k : Nat) (d : D) (ds : List D) (hd' : d = .tup ds ∨ d = .lst ds) (hl : ds.length ≤ 100000) (ih : ∀ (i : Nat) (h : i < ds.length), f__law_same (k + 1) [.pu ds[i], .pu ds[i]] = .ok (.bl true, false) [.pu ds[i], .pu ds[i]]) : f__law_same (k + 2) [.pu d, .pu d] = .ok (.bl true, false) [.pu d, .pu d] := by
  have h0 : fLen d = some (.int (ds.length : Int), false) := by rcases hd' with rfl | rfl <;> rfl
  have hd : ∀ (i : Nat) (h : i < ds.length), fIx d (.int (i : Int)) = some (ds[i], false) := fun i h => by
    rcases hd' with rfl | rfl
    · exact fIx_tup (atI_nat h)
    · exact fIx_lst (atI_nat h)
  have seq := same_seq (me := f__law_same (k + 1)) h0 hl hd ih
  have ht : fIsi [.tuple, .list] d = some (.bl true, false) := by rcases hd' with rfl | rfl <;> rfl
  obtain ⟨c, hc⟩ : ∃ c, fIsi [.tuple] d = some (.bl c, false) := by rcases hd' with rfl | rfl <;> exact ⟨_, rfl⟩
  obtain ⟨c', hc'⟩ : ∃ c, fIsi [.list] d = some (.bl c, false) := by rcases hd' with rfl | rfl <;> exact ⟨_, rfl⟩
  have hne : ∀ b : Bool, fEq false (.bl b) (.bl b) = some (.bl false, false) := fun b => by cases b <;> rfl
  have hne2 : fEq false (.int (ds.length : Int)) (.int (ds.length : Int)) = some (.bl false, false) := by rw [fNeI_r]; simp
  apply def_rt (st := [.pu d, .pu d]) rfl rfl
  · unfold r__law_same
    apply sSeq_rt
    apply sIf_r (c := true)
    · apply tOf_r
      · apply eV1_r
        · exact rfl
        · exact ht
      · rfl
    · rw [if_pos rfl]
      apply sSeq_r
      · apply sIf_r (c := false)
        · apply tOr_r (c := false)
          · apply tOf_r
            · apply eBin_r
              · apply eV1_r
                · exact rfl
                · exact hc
              · apply eV1_r
                · exact rfl
                · exact hc
              · exact hne c
            · rfl
          · rw [if_neg (by decide)]
            apply tOf_r
            · apply eBin_r
              · apply eV1_r
                · exact rfl
                · exact hc'
              · apply eV1_r
                · exact rfl
                · exact hc'
              · exact hne c'
            · rfl
        · exact rfl
      · apply sSeq_r
        · apply sIf_r (c := false)
          · apply tOf_r
            · apply eBin_r
              · apply eV1_r
                · exact rfl
                · exact h0
              · apply eV1_r
                · exact rfl
                · exact h0
              · exact hne2
            · rfl
          · exact rfl
        · apply sRet_r
          apply eBin_r
          · exact seq
          · apply eLst_r
            · exact aNil_r
            · decide
            · exact rfl
          · exact rfl
  · exact rfl
theorem run_same : ∀ (k : Nat) (d : D), Pt k d → f__law_same (k + 1) [.pu d, .pu d] = .ok (.bl true, false) [.pu d, .pu d]
  | 0, d, h => run_same0 0 d h
  | k + 1, d, h => by
    cases h with
    | tup _ ds hl h => exact run_same1 k _ ds (.inl rfl) hl fun i hi => run_same k _ (h i hi)
    | lst _ ds hl h => exact run_same1 k _ ds (.inr rfl) hl fun i hi => run_same k _ (h i hi)
    | non => exact run_same0 _ _ (.non 0)
    | bl _ b => exact run_same0 _ _ (.bl 0 b)
    | int _ i => exact run_same0 _ _ (.int 0 i)
    | str _ x hx => exact run_same0 _ _ (.str 0 x hx)
end G
end

end

section
set_option Elab.async false
set_option linter.all false
set_option maxRecDepth 100000
set_option maxHeartbeats 2000000
noncomputable section
namespace G
open PySem L2 TX
theorem run_minus (a b c d : Int) (h1 : Nb a b) (h2 : Nb c d) (s1 : mOk a d) (s2 : mOk c b) (s3 : mOk b d) (hs : (b * d).natAbs.log2 < 9000) : f_minus [.pu (N a b), .pu (N c d)] = .ok (nm (a * d - c * b) (b * d), false) [.pu (N a b), .pu (N c d)] := by
  have hb : b * d ≠ 0 := Int.mul_ne_zero (by have := h1.1; omega) (by have := h2.1; omega)
  apply def_rt rfl rfl
  · unfold r_minus
    apply sSeq_r
    · apply sDrop_r
      apply eCallP_r
      · walk_at "ev"
      · exact run_check2 a b c d h1 h2
    · apply sRet_r
      apply eCallP_r
      · walk_at "ev"
      · exact run_num hb hs
  · exact rfl
theorem run_times (a b c d : Int) (h1 : Nb a b) (h2 : Nb c d) (s1 : mOk a c) (s3 : mOk b d) (hs : (b * d).natAbs.log2 < 9000) : f_times [.pu (N a b), .pu (N c d)] = .ok (nm (a * c) (b * d), false) [.pu (N a b), .pu (N c d)] := by
  have hb : b * d ≠ 0 := Int.mul_ne_zero (by have := h1.1; omega) (by have := h2.1; omega)
  apply def_rt rfl rfl
  · unfold r_times
    apply sSeq_r
    · apply sDrop_r
      apply eCallP_r
      · walk_at "ev"
      · exact run_check2 a b c d h1 h2
    · apply sRet_r
      apply eCallP_r
      · walk_at "ev"
      · exact run_num hb hs
  · exact rfl
theorem run_below (a b c d : Int) (h1 : Nb a b) (h2 : Nb c d) (s1 : mOk a d) (s2 : mOk c b) : f_below [.pu (N a b), .pu (N c d)] = .ok (.bl (decide (a * d < c * b)), false) [.pu (N a b), .pu (N c d)] := by
  apply def_rt rfl rfl
  · unfold r_below
    apply sSeq_r
    · apply sDrop_r
      apply eCallP_r
      · walk_at "ev"
      · exact run_check2 a b c d h1 h2
    · apply sRet_r
      apply eCallP_r
      · walk_at "ev"
      · exact run_is_less a b c d s1 s2
  · exact rfl
theorem run_lplus (a b c d : Int) (hb : b * d ≠ 0) (s1 : mOk a d) (s2 : mOk c b) (s3 : mOk b d) (hs : (b * d).natAbs.log2 < 9000) : f__law_plus [.pu (N a b), .pu (N c d)] = .ok (nm (a * d + c * b) (b * d), false) [.pu (N a b), .pu (N c d)] := by
  apply def_rt rfl rfl
  · unfold r__law_plus
    apply sRet_r
    apply eCallP_r
    · walk_at "ev"
    · exact run_pair hb hs
  · exact rfl
theorem run_ltimes (a b c d : Int) (hb : b * d ≠ 0) (s1 : mOk a c) (s3 : mOk b d) (hs : (b * d).natAbs.log2 < 9000) : f__law_times [.pu (N a b), .pu (N c d)] = .ok (nm (a * c) (b * d), false) [.pu (N a b), .pu (N c d)] := by
  apply def_rt rfl rfl
  · unfold r__law_times
    apply sRet_r
    apply eCallP_r
    · walk_at "ev"
    · exact run_pair hb hs
  · exact rfl
theorem fEq_zero {c d : Int} : fEq true (N c d) d_ZERO = some (.bl (decide (c = 0) && decide (d = 1)), false) := by
  show some (D.bl (PyData.eqv (.tuple [.int c, .int d]) (.tuple [.int 0, .int 1]) == true), false) = _
  have e : PyData.eqv (.tuple [.int c, .int d]) (.tuple [.int 0, .int 1]) = (decide (c = 0) && decide (d = 1)) := by
    by_cases h1 : c = 0 <;> by_cases h2 : d = 1 <;> simp [PyData.eqv, PyData.eqvAll, h1, h2]
  rw [e]
  cases (decide (c = 0) && decide (d = 1)) <;> rfl
theorem run_by (a b c d : Int) (h1 : Nb a b) (h2 : Nb c d) (hc : c ≠ 0) (s1 : mOk a d) (s3 : mOk b c) (hs : (b * c).natAbs.log2 < 9000) : f_by [.pu (N a b), .pu (N c d)] = .ok (nm (a * d) (b * c), false) [.pu (N a b), .pu (N c d)] := by
  have hb : b * c ≠ 0 := Int.mul_ne_zero (by have := h1.1; omega) hc
  have he : fEq true (N c d) d_ZERO = some (.bl false, false) := by rw [fEq_zero, decide_eq_false hc]; rfl
  apply def_rt rfl rfl
  · unfold r_by
    apply sSeq_r
    · apply sDrop_r
      apply eCallP_r
      · walk_at "ev"
      · exact run_check2 a b c d h1 h2
    · apply sSeq_r
      · apply sIf_r (c := false)
        · apply tOf_r
          · apply eBinV_r
            · exact rfl
            · exact eC_r
            · exact rfl
            · exact he
          · rfl
        · exact rfl
      · apply sRet_r
        apply eCallP_r
        · walk_at "ev"
        · exact run_num hb hs
  · exact rfl
/-! ### lowest terms -/
theorem low_terms {p q : Int} (h : q ≠ 0) : ∃ (g : Nat) (a b : Int), 0 < g ∧ p = g * a ∧ q = g * b ∧ Nat.gcd a.natAbs b.natAbs = 1 ∧ g = Nat.gcd p.natAbs q.natAbs := by
  have hg : 0 < Nat.gcd p.natAbs q.natAbs := Nat.gcd_pos_of_pos_right _ (by omega)
  obtain ⟨a, ha⟩ : ((Nat.gcd p.natAbs q.natAbs : Nat) : Int) ∣ p := Int.ofNat_dvd_left.mpr (Nat.gcd_dvd_left _ _)
  obtain ⟨b, hb⟩ : ((Nat.gcd p.natAbs q.natAbs : Nat) : Int) ∣ q := Int.ofNat_dvd_left.mpr (Nat.gcd_dvd_right _ _)
  refine ⟨Nat.gcd p.natAbs q.natAbs, a, b, hg, ha, hb, ?_, rfl⟩
  generalize hgg : Nat.gcd p.natAbs q.natAbs = g at *
  have e : Nat.gcd p.natAbs q.natAbs = g * Nat.gcd a.natAbs b.natAbs := by
    rw [ha, hb, Int.natAbs_mul, Int.natAbs_mul, Int.natAbs_natCast, Nat.gcd_mul_left]
  rw [hgg] at e
  have : g * Nat.gcd a.natAbs b.natAbs = g * 1 := by omega
  exact Nat.eq_of_mul_eq_mul_left hg this
theorem nm_eq {p q : Int} (h : q ≠ 0) : ∃ (g : Nat) (a b : Int), 0 < g ∧ Nb a b ∧ nm p q = N a b ∧ ((p = g * a ∧ q = g * b) ∨ (p = g * (-a) ∧ q = g * (-b))) := by
  obtain ⟨g, a, b, hg, hp, hq, hc, eg⟩ := low_terms (p := p) h
  have hg' : (g : Int) ≠ 0 := by omega
  have d1 : ∀ x : Int, ((g : Int) * x).fdiv (g : Int) = x := fun x => by rw [Int.fdiv_eq_ediv_of_dvd ⟨x, rfl⟩, Int.mul_ediv_cancel_left _ hg']
  have d2 : ∀ x : Int, ((g : Int) * x).fdiv (-(g : Int)) = -x := fun x => by rw [Int.fdiv_eq_ediv_of_dvd ⟨-x, by rw [Int.neg_mul_neg]⟩, Int.ediv_neg, Int.mul_ediv_cancel_left _ hg']
  by_cases hn : q < 0
  · have hb : b < 0 := by
      rcases Int.lt_trichotomy b 0 with z | z | z
      · exact z
      · rw [z, Int.mul_zero] at hq; omega
      · have := Int.mul_pos (show (0 : Int) < g by omega) z; omega
    refine ⟨g, -a, -b, hg, ⟨by omega, by rw [Int.natAbs_neg, Int.natAbs_neg]; exact hc⟩, ?_, .inr ⟨by rw [Int.neg_neg]; exact hp, by rw [Int.neg_neg]; exact hq⟩⟩
    have e : sgcd p q = -(g : Int) := by unfold sgcd; rw [if_pos hn, ← eg]
    unfold nm
    rw [e, hp, hq, d2, d2]
  · have hb : 0 < b := by
      rcases Int.lt_trichotomy b 0 with z | z | z
      · have := Int.mul_neg_of_pos_of_neg (show (0 : Int) < g by omega) z; omega
      · rw [z, Int.mul_zero] at hq; omega
      · exact z
    refine ⟨g, a, b, hg, ⟨hb, hc⟩, ?_, .inl ⟨hp, hq⟩⟩
    have e : sgcd p q = (g : Int) := by unfold sgcd; rw [if_neg hn, ← eg]
    unfold nm
    rw [e, hp, hq, d1, d1]
theorem nm_id {p q : Int} (h : Nb p q) : nm p q = N p q := by
  obtain ⟨h1, h2⟩ := h
  have e : sgcd p q = 1 := by unfold sgcd; rw [if_neg (by omega), h2]; rfl
  unfold nm
  rw [e, Int.fdiv_one, Int.fdiv_one]
end G
end

end

section
set_option Elab.async false
set_option linter.all false
set_option maxRecDepth 100000
set_option maxHeartbeats 2000000
noncomputable section
namespace G
open PySem L2 TX
theorem ix7 {a b c d e f g : D} {i : Int} (h0 : 0 ≤ i) (h1 : i < 7) : ∃ x, (x = a ∨ x = b ∨ x = c ∨ x = d ∨ x = e ∨ x = f ∨ x = g) ∧ atI [a, b, c, d, e, f, g] i = some x := by
  have : i = 0 ∨ i = 1 ∨ i = 2 ∨ i = 3 ∨ i = 4 ∨ i = 5 ∨ i = 6 := by omega
  rcases this with rfl | rfl | rfl | rfl | rfl | rfl | rfl <;> exact ⟨_, by simp, rfl⟩
theorem ix2 {a b : D} {i : Int} (h0 : 0 ≤ i) (h1 : i < 2) : ∃ x, (x = a ∨ x = b) ∧ atI [a, b] i = some x := by
  have : i = 0 ∨ i = 1 := by omega
  rcases this with rfl | rfl <;> exact ⟨_, by simp, rfl⟩
theorem run_integer {l : List D} (hl : Dk l) : ∃ (v : Int) (l' : List D), f__law_integer [.ow l] = .ok (.int v, false) [.ow l'] ∧ v.natAbs < 2 ^ 270 ∧ Dk l' := by
  obtain ⟨few, l1, e1, f0, f1, d1⟩ := run_take hl (10 ^ Int.toNat 6) (by decide) (by decide +kernel)
  obtain ⟨r, l2, e2, r0, r1, d2⟩ := run_take d1 (10 ^ Int.toNat 9) (by decide) (by decide +kernel)
  obtain ⟨i, l3, e3, i0, i1, d3⟩ := run_take d2 7 (by decide) (by decide +kernel)
  obtain ⟨j, l4, e4, j0, j1, d4⟩ := run_take d3 2 (by decide) (by decide +kernel)
  have f1' : few < 1000000 := f1
  have r1' : r < 1000000000 := r1
  have hb : (1 + r).natAbs < 2 ^ 64 := by omega
  have p3 : fPow (.int (1 + r)) (.int 3) = some (.int ((1 + r) ^ (Int.toNat 3)), false) := fPow_r ⟨by decide, by decide, hb⟩
  have p9 : fPow (.int (1 + r)) (.int 9) = some (.int ((1 + r) ^ (Int.toNat 9)), false) := fPow_r ⟨by decide, by decide, hb⟩
  obtain ⟨x, hx, ex⟩ := ix7 (a := .int 0) (b := .int few) (c := .int (few.fdiv (10 ^ (Int.toNat 5)))) (d := .int ((1 + r) ^ (Int.toNat 3))) (e := .int ((1 + r) ^ (Int.toNat 9) + few)) (f := .int 1) (g := .int 2) i0 i1
  have hw : ∃ v : Int, x = .int v ∧ v.natAbs < 2 ^ 270 := by
    have b9 : ((1 + r) ^ (Int.toNat 9)).natAbs ≤ 1000000000 ^ 9 := by
      rw [Int.natAbs_pow]
      exact Nat.pow_le_pow_left (by omega) _
    have b3 : ((1 + r) ^ (Int.toNat 3)).natAbs ≤ 1000000000 ^ 3 := by
      rw [Int.natAbs_pow]
      exact Nat.pow_le_pow_left (by omega) _
    have b5 : (few.fdiv (10 ^ (Int.toNat 5))).natAbs ≤ 1000000 := by
      have : few.fdiv (10 ^ (Int.toNat 5)) = few / 100000 := Int.fdiv_eq_ediv_of_nonneg _ (by decide)
      rw [this]
      omega
    rcases hx with rfl | rfl | rfl | rfl | rfl | rfl | rfl
    · exact ⟨_, rfl, by decide⟩
    · exact ⟨_, rfl, by omega⟩
    · exact ⟨_, rfl, by omega⟩
    · exact ⟨_, rfl, by omega⟩
    · exact ⟨_, rfl, by omega⟩
    · exact ⟨_, rfl, by decide⟩
    · exact ⟨_, rfl, by decide⟩
  obtain ⟨v, rfl, hv⟩ := hw
  obtain ⟨y, hy, ey⟩ := ix2 (a := .int v) (b := .int (-v)) j0 j1
  have hy' : ∃ u : Int, y = .int u ∧ u.natAbs < 2 ^ 270 := by
    rcases hy with rfl | rfl
    · exact ⟨_, rfl, hv⟩
    · exact ⟨_, rfl, by omega⟩
  obtain ⟨u, rfl, hu⟩ := hy'
  refine ⟨u, l4, ?_, hu, d4⟩
  apply def_rt (st := [.ow l]) rfl rfl
  · unfold r__law_integer
    apply sSeq_r (st1 := [.ow l1, .pu (.int few), .un, .un])
    · apply sSet_r
      · apply eCallA_iov (l := l) (l1 := l)
        · exact rfl
        · walk_at "ev"
        · exact rfl
        · exact e1
      · walk_at "ev"
    · apply sSeq_r (st1 := [.ow l2, .pu (.int few), .pu (.int (1 + r)), .un])
      · apply sSet_r
        · apply eBin_r
          · exact eC_r
          · apply eCallA_iov (l := l1) (l1 := l1)
            · exact rfl
            · walk_at "ev"
            · exact rfl
            · exact e2
          · exact rfl
        · walk_at "ev"
      · apply sSeq_r (st1 := [.ow l3, .pu (.int few), .pu (.int (1 + r)), .pu (.int v)])
        · apply sSet_r
          · apply eBin_r
            · walk_at "ev"
            · apply eCallA_iov (l := l2) (l1 := l2)
              · exact rfl
              · walk_at "ev"
              · exact rfl
              · exact e3
            · exact fIx_lst ex
          · walk_at "ev"
        · apply sRet_r
          apply eBin_r
          · walk_at "ev"
          · apply eCallA_iov (l := l3) (l1 := l3)
            · exact rfl
            · walk_at "ev"
            · exact rfl
            · exact e4
          · exact fIx_lst ey
  · exact rfl
end G
end

end

section
set_option Elab.async false
set_option linter.all false
set_option maxRecDepth 100000
set_option maxHeartbeats 2000000
set_option exponentiation.threshold 10000
noncomputable section
namespace G
open PySem L2 TX
/-- a number of fewer than B bits -/
def Gd (B : Nat) (d : D) : Prop := ∃ a b : Int, d = N a b ∧ Nb a b ∧ a.natAbs < 2 ^ B ∧ b.natAbs < 2 ^ B
theorem abs_le_mul {g : Nat} {a : Int} (hg : 0 < g) : a.natAbs ≤ ((g : Int) * a).natAbs := by
  rw [Int.natAbs_mul, Int.natAbs_natCast]
  exact Nat.le_mul_of_pos_left _ hg
theorem nm_gd {B : Nat} {p q : Int} (h : q ≠ 0) (hp : p.natAbs < 2 ^ B) (hq : q.natAbs < 2 ^ B) : Gd B (nm p q) := by
  obtain ⟨g, a, b, hg, hn, e, hh⟩ := nm_eq (p := p) h
  refine ⟨a, b, e, hn, ?_, ?_⟩
  · rcases hh with ⟨h1, _⟩ | ⟨h1, _⟩
    · have := abs_le_mul (a := a) hg; rw [← h1] at this; omega
    · have := abs_le_mul (a := -a) hg; rw [← h1, Int.natAbs_neg] at this; omega
  · rcases hh with ⟨_, h1⟩ | ⟨_, h1⟩
    · have := abs_le_mul (a := b) hg; rw [← h1] at this; omega
    · have := abs_le_mul (a := -b) hg; rw [← h1, Int.natAbs_neg] at this; omega
theorem Gd.mono {B C : Nat} {d : D} (h : Gd B d) (hc : B ≤ C) : Gd C d := by
  obtain ⟨a, b, e, hn, h1, h2⟩ := h
  have := Nat.pow_le_pow_right (show 0 < 2 by decide) hc
  exact ⟨a, b, e, hn, by omega, by omega⟩
theorem log_lt {B : Nat} {n : Nat} (h : n < 2 ^ B) (h0 : 0 < B) (hB : B ≤ 8000) : n.log2 < 9000 := by
  have := log2_lt h h0
  omega
theorem run_small {l : List D} (hl : Dk l) : ∃ (d : D) (l' : List D), f__law_small [.ow l] = .ok (d, false) [.ow l'] ∧ Gd 6 d ∧ Dk l' := by
  obtain ⟨r, l1, e1, r0, r1, d1⟩ := run_take hl 21 (by decide) (by decide +kernel)
  obtain ⟨s, l2, e2, s0, s1, d2⟩ := run_take d1 6 (by decide) (by decide +kernel)
  have hq : (1 + s : Int) ≠ 0 := by omega
  have q6 : (1 + s).natAbs < 2 ^ 6 := by omega
  refine ⟨nm (r - 10) (1 + s), l2, ?_, nm_gd hq (by omega) q6, d2⟩
  apply def_rt (st := [.ow l]) rfl rfl
  · unfold r__law_small
    apply sRet_r
    apply eCallP_r
    · apply aCons_r
      · apply eBin_r
        · apply eCallA_iov (l := l) (l1 := l)
          · exact rfl
          · walk_at "ev"
          · exact rfl
          · exact e1
        · exact eC_r
        · exact rfl
      · apply aCons_r
        · apply eBin_r
          · exact eC_r
          · apply eCallA_iov (l := l1) (l1 := l1)
            · exact rfl
            · walk_at "ev"
            · exact rfl
            · exact e2
          · exact rfl
        · exact aNil_r
        · exact rfl
      · exact rfl
    · exact run_pair hq (log_lt q6 (by decide) (by decide))
  · exact rfl
theorem run_own {l : List D} (hl : Dk l) : ∃ (d : D) (l' : List D), f__law_own [.ow l] = .ok (d, false) [.ow l'] ∧ Gd 270 d ∧ Dk l' := by
  obtain ⟨p, l1, e1, hp, d1⟩ := run_integer hl
  obtain ⟨q, l2, e2, hq, d2⟩ := run_integer d1
  have hz : q + (if q = 0 then 1 else 0) ≠ 0 := by split <;> omega
  have hz2 : (q + (if q = 0 then 1 else 0)).natAbs < 2 ^ 270 := by
    split
    · subst_vars; decide
    · rw [Int.add_zero]; exact hq
  refine ⟨nm p (q + (if q = 0 then 1 else 0)), l2, ?_, nm_gd hz hp hz2, d2⟩
  apply def_rt (st := [.ow l]) rfl rfl
  · unfold r__law_own
    apply sSeq_r (st1 := [.ow l2, .pu (.int p), .pu (.int q)])
    · apply sPar_r
      · apply aCons_r
        · apply eCallA_io (l := l)
          · exact rfl
          · exact e1
        · apply aCons_r
          · apply eCallA_io (l := l1)
            · exact rfl
            · exact e2
          · exact aNil_r
          · exact rfl
        · exact rfl
      · decide
      · exact rfl
    · apply sRet_r
      apply eCallP_r (ds := [.int p, .int (q + (if q = 0 then 1 else 0))])
      · apply aCons_r
        · walk_at "ev"
        · apply aCons_r
          · apply eBin_r
            · walk_at "ev"
            · apply eUn_r (x := (.bl (decide (q = 0)), false)) (z := (.int (if q = 0 then 1 else 0), false))
              · walk_at "ev"
              · by_cases h : q = 0
                · rw [decide_eq_true h, if_pos h]; exact rfl
                · rw [decide_eq_false h, if_neg h]; exact rfl
            · exact rfl
          · exact aNil_r
          · exact rfl
        · exact rfl
      · exact run_pair hz (log_lt hz2 (by decide) (by decide))
  · exact rfl
end G
end

end

section
set_option Elab.async false
set_option linter.all false
set_option maxRecDepth 100000
set_option maxHeartbeats 2000000
set_option exponentiation.threshold 10000
noncomputable section
namespace G
open PySem L2 TX
theorem same_ok {A B : EvE} {st st1 st2 : List Sl} {d : D} {x y : R1} (ha : A st = .ok x st1) (hb : B st1 = .ok y st2) (hx : x.1 = d) (hy : y.1 = d) (h : Pt 7 d) : eCallP (aCons A (aCons B aNil)) id (f__law_same 8) st = .ok (.bl true, false) st2 := by
  apply eCallP_r (ds := [d, d])
  · apply aCons_r
    · exact ha
    · apply aCons_r
      · exact hb
      · exact aNil_r
      · exact hy
    · exact hx
  · exact run_same 7 d h
theorem same_not {A B : EvE} {st st1 st2 : List Sl} {d : D} {x y : R1} (ha : A st = .ok x st1) (hb : B st1 = .ok y st2) (hx : x.1 = d) (hy : y.1 = d) (h : Pt 7 d) : tNot' (tOf (eCallP (aCons A (aCons B aNil)) id (f__law_same 8))) st = .ok false st2 := by
  apply tNot_r (c := true)
  apply tOf_r
  · exact same_ok ha hb hx hy h
  · rfl
theorem pt_n (k : Nat) (p q : Int) : Pt (k + 1) (N p q) := by
  refine .tup k _ (by simp) fun i hi => ?_
  have : i = 0 ∨ i = 1 := by simp at hi; omega
  rcases this with rfl | rfl <;> exact .int k _
theorem pt_l {k : Nat} {ds : List D} (hl : ds.length ≤ 100000) (h : ∀ d ∈ ds, Pt k d) : Pt (k + 1) (.lst ds) := .lst k ds hl fun i hi => h _ (List.getElem_mem hi)
/-- [f(u, v), f(b = v, a = u)] -/
theorem both {φ : EvE} {st s' : List Sl} {u v x : D} {f : Bool} {pm : List D → List D} (hu : st[0]? = some (.pu u)) (hv : st[1]? = some (.pu v)) (hpm : pm [v, u] = [u, v]) (hf : φ [.pu u, .pu v] = .ok (x, f) s') :
    aCons (eCallP (aCons (eVar 0) (aCons (eVar 1) aNil)) id φ) (aCons (eCallK aNil (aCons (eVar 1) (aCons (eVar 0) aNil)) 2 0 pm φ) aNil) st = .ok [x, x] st := by
  have A : ∀ i d, st[i]? = some (.pu d) → eVar i st = .ok (d, false) st := fun i d h => eVar_r h
  apply aCons_r
  · apply eCallP_r (ds := [u, v])
    · apply aCons_r
      · exact A 0 u hu
      · apply aCons_r
        · exact A 1 v hv
        · exact aNil_r
        · exact rfl
      · exact rfl
    · exact hf
  · apply aCons_r
    · apply eCallK_r (ds := []) (es := [v, u])
      · exact aNil_r
      · apply aCons_r
        · exact A 1 v hv
        · apply aCons_r
          · exact A 0 u hu
          · exact aNil_r
          · exact rfl
        · exact rfl
      · simp
      · show φ (pus (pm [v, u])) = _
        rw [hpm]
        exact hf
    · exact aNil_r
    · exact rfl
  · exact rfl
/-- [e] * 2 -/
theorem rep2 {e : EvE} {st st1 : List Sl} {x : R1} (h : e st = .ok x st1) : eBin fMul (eLst (aCons e aNil)) (eC (.int 2)) st = .ok (.lst [x.1, x.1], true) st1 := by
  apply eBin_r
  · apply eLst_r
    · apply aCons_r
      · exact h
      · exact aNil_r
      · exact rfl
    · simp
    · exact rfl
  · exact eC_r
  · exact rfl
theorem lst2 {ea : EvA} {st st1 : List Sl} {ds : List D} (h : ea st = .ok ds st1) (hl : ds.length ≤ 100000) : eLst ea st = .ok (.lst ds, true) st1 := eLst_r h hl rfl
theorem run_two_right {u v : D} {B C : Nat} (hu : Gd B u) (hv : Gd C v) (h0 : 0 < B) (h1 : 0 < C) (hB : B + C ≤ 7000) : f__law_two_right [.pu u, .pu v] = .ok (.bl true, false) [.pu u, .pu v] := by
  obtain ⟨a, b, rfl, n1, a1, b1⟩ := hu
  obtain ⟨c, d, rfl, n2, c1, d1⟩ := hv
  have nb := n1.1
  have nd := n2.1
  have s1 : mOk a d := mOk_of a1 d1 h0 h1 (by omega)
  have s2 : mOk c b := mOk_of c1 b1 h1 h0 (by omega)
  have s3 : mOk b d := mOk_of b1 d1 h0 h1 (by omega)
  have s4 : mOk a c := mOk_of a1 c1 h0 h1 (by omega)
  have s5 : mOk b c := mOk_of b1 c1 h0 h1 (by omega)
  have s6 : mOk a b := mOk_of a1 b1 h0 h0 (by omega)
  have mul_lt : ∀ {x y : Int}, x.natAbs < 2 ^ B → y.natAbs < 2 ^ C → (x * y).natAbs < 2 ^ (B + C) := fun {x y} hx hy => by
    rw [Int.natAbs_mul, Nat.pow_add]
    exact Nat.mul_lt_mul'' hx hy
  have l1 : (b * d).natAbs.log2 < 9000 := log_lt (mul_lt b1 d1) (by omega) (by omega)
  have l2 : (b * c).natAbs.log2 < 9000 := log_lt (mul_lt b1 c1) (by omega) (by omega)
  have hbd : b * d ≠ 0 := Int.mul_ne_zero (by omega) (by omega)
  have sneg : mOk (-c) b := by show (-c).natAbs.log2 + _ < _; rw [Int.natAbs_neg]; exact s2
  have pairs : ∀ p q : Int, Pt 7 (.lst [nm p q, nm p q]) := fun p q => pt_l (by simp) fun d hd => by
    simp at hd; subst hd; exact pt_n 5 _ _
  have st0 : ∀ (i : Nat) (d : D) (st : List Sl), st[i]? = some (.pu d) → eVar i st = .ok (d, false) st := fun i d st h => eVar_r h
  have lpm : f__law_plus [.pu (N a b), .pu (N (-c) d)] = .ok (nm (a * d - c * b) (b * d), false) [.pu (N a b), .pu (N (-c) d)] := by
    have e : a * d - c * b = a * d + (-c) * b := by rw [Int.neg_mul]; omega
    rw [e]
    exact run_lplus a b (-c) d hbd s1 sneg s3 l1
  have lless := run_law_less a b c d s1 s2
  have eless : decide (a * d - c * b < 0) = decide (a * d < c * b) := decide_eq_decide.mpr (by omega)
  rw [eless] at lless
  have lbb : f_below [.pu (N a b), .pu (N a b)] = .ok (.bl false, false) [.pu (N a b), .pu (N a b)] := by
    have := run_below a b a b n1 n1 s6 s6
    rw [decide_eq_false (by omega)] at this
    exact this
  apply def_rt rfl rfl
  · unfold r__law_two_right
    apply sSeq_r (st1 := [.pu (N a b), .pu (N c d), .pu (N (-c) d)])
    · walk_at "ev"
    · apply sSeq_r
      · apply sIf_r (c := false)
        · apply same_not (lst2 (both rfl rfl rfl (run_plus a b c d n1 n2 s1 s2 s3 l1)) (by simp)) (rep2 (eCallP_r (by walk_at "ev") (run_lplus a b c d hbd s1 s2 s3 l1))) rfl rfl (pairs _ _)
        · exact rfl
      · apply sSeq_r
        · apply sIf_r (c := false)
          · apply same_not (lst2 (both rfl rfl rfl (run_minus a b c d n1 n2 s1 s2 s3 l1)) (by simp)) (rep2 (eCallP_r (ds := [N a b, N (-c) d]) (by walk_at "ev") lpm)) rfl rfl (pairs _ _)
          · exact rfl
        · apply sSeq_r
          · apply sIf_r (c := false)
            · apply same_not (lst2 (both rfl rfl rfl (run_times a b c d n1 n2 s4 s3 l1)) (by simp)) (rep2 (eCallP_r (by walk_at "ev") (run_ltimes a b c d hbd s4 s3 l1))) rfl rfl (pairs _ _)
            · exact rfl
          · apply sSeq_r (st1 := [.pu (N a b), .pu (N c d), .pu (N (-c) d)])
            · apply sIf_r (c := false)
              · by_cases hc : c = 0
                · apply tAnd_r (c := false)
                  · apply tOf_r
                    · walk_at "ev"
                    · simp [hc]
                  · exact rfl
                · have hbc : b * c ≠ 0 := Int.mul_ne_zero (by omega) hc
                  apply tAnd_r (c := true)
                  · apply tOf_r
                    · walk_at "ev"
                    · simp [hc]
                  · rw [if_pos rfl]
                    apply same_not (lst2 (both rfl rfl rfl (run_by a b c d n1 n2 hc s1 s5 l2)) (by simp)) (rep2 (eCallP_r (ds := [.int (a * d), .int (b * c)]) (by walk_at "ev") (run_pair hbc l2))) rfl rfl (pairs _ _)
              · exact rfl
            · apply sRet_r
              have hbel := run_below a b c d n1 n2 s1 s2
              apply same_ok (d := .lst [.bl (decide (a * d < c * b)), .bl (decide (a * d < c * b)), .bl false]) (st1 := [.pu (N a b), .pu (N c d), .pu (N (-c) d)])
              · apply eLst_r
                · apply aCons_r
                  · apply eCallP_r (ds := [N a b, N c d])
                    · walk_at "ev"
                    · exact hbel
                  · apply aCons_r
                    · apply eCallK_r (ds := []) (es := [N c d, N a b])
                      · exact aNil_r
                      · walk_at "ev"
                      · simp
                      · exact hbel
                    · apply aCons_r
                      · apply eCallP_r (ds := [N a b, N a b])
                        · walk_at "ev"
                        · exact lbb
                      · exact aNil_r
                      · exact rfl
                    · exact rfl
                  · exact rfl
                · simp
                · exact rfl
              · apply eBin_r
                · exact rep2 (eCallP_r (ds := [N a b, N c d]) (by walk_at "ev") lless)
                · walk_at "ev"
                · exact rfl
              · exact rfl
              · exact rfl
              · exact pt_l (by simp) fun d hd => by
                  simp at hd
                  rcases hd with rfl | rfl <;> exact .bl _ _
  · exact rfl
end G
end

end

section
set_option Elab.async false
set_option linter.all false
set_option maxRecDepth 100000
set_option maxHeartbeats 2000000
set_option exponentiation.threshold 10000
noncomputable section
namespace G
open PySem L2 TX
theorem nb_pow {a b : Int} (h : Nb a b) (n : Nat) : Nb (a ^ n) (b ^ n) := by
  refine ⟨Int.pow_pos h.1, ?_⟩
  rw [Int.natAbs_pow, Int.natAbs_pow]
  exact Nat.Coprime.pow n n h.2
theorem pow_lt' {a : Int} {B : Nat} (h : a.natAbs < 2 ^ B) (h0 : 0 < B) (n : Nat) : (a ^ n).natAbs < 2 ^ (B * n + 1) := by
  rw [Int.natAbs_pow, Nat.pow_succ, Nat.pow_mul]
  have := Nat.pow_le_pow_left (Nat.le_of_lt h) n
  have h2 : 0 < (2 ^ B) ^ n := Nat.pow_pos (Nat.pow_pos (by decide))
  omega
theorem mul_step {t a : Int} {i j : Nat} (h : t.natAbs < 2 ^ i) (h2 : a.natAbs < 2 ^ j) : (t * a).natAbs < 2 ^ (i + j) := by
  rw [Int.natAbs_mul, Nat.pow_add]
  exact Nat.mul_lt_mul'' h h2
theorem power_loop {a b : Int} {B : Nat} (ha : a.natAbs < 2 ^ B) (hb : b.natAbs < 2 ^ B) (h0 : 0 < B) (n : Sl) : ∀ (L : List D) (t u : Int) (x : Sl) (k : Nat), 0 < k → t.natAbs < 2 ^ k → u.natAbs < 2 ^ k → k + B * (L.length + 1) ≤ 900000 →
    ∃ y, sFor (putN [] 4) (sSeq (sSet [] 2 (eBin fMul (eVar 2) (eIxV 0 (eC (.int 0))))) (sSet [] 3 (eBin fMul (eVar 3) (eIxV 0 (eC (.int 1)))))) L [.pu (N a b), n, .pu (.int t), .pu (.int u), x] = .nx [.pu (N a b), n, .pu (.int (t * a ^ L.length)), .pu (.int (u * b ^ L.length)), y]
  | [], t, u, x, k, _, _, _, _ => ⟨x, by simp [sFor]⟩
  | d :: L, t, u, x, k, hk, ht, hu, hs => by
    rw [List.length_cons] at hs
    have e3 : B * (L.length + 1 + 1) = B * (L.length + 1) + B := by rw [Nat.mul_succ]
    obtain ⟨y, hy⟩ := power_loop ha hb h0 n L (t * a) (u * b) (.pu d) (k + B) (by omega) (mul_step ht ha) (mul_step hu hb) (by omega)
    refine ⟨y, ?_⟩
    have m1 : mOk t a := mOk_of ht ha hk h0 (by omega)
    have m2 : mOk u b := mOk_of hu hb hk h0 (by omega)
    apply sFor_cons (st1 := [.pu (N a b), n, .pu (.int t), .pu (.int u), .pu d]) (s := [.pu (N a b), n, .pu (.int (t * a)), .pu (.int (u * b)), .pu d])
    · exact rfl
    · apply sSeq_r (st1 := [.pu (N a b), n, .pu (.int (t * a)), .pu (.int u), .pu d])
      · walk_at "ev"
      · walk_at "ev"
    · rw [hy]
      have e1 : t * a ^ (d :: L).length = t * a * a ^ L.length := by rw [List.length_cons, Int.pow_succ, Int.mul_assoc, Int.mul_comm a]
      have e2 : u * b ^ (d :: L).length = u * b * b ^ L.length := by rw [List.length_cons, Int.pow_succ, Int.mul_assoc, Int.mul_comm b]
      rw [e1, e2]
theorem run_check1 (a b : Int) (h1 : Nb a b) : f__check_all [.pu (.tup [N a b])] = .ok (.non, false) [.pu (.tup [N a b])] := by
  obtain ⟨y, hy⟩ := run_checkL [(a, b)] (.pu (.tup [N a b])) .un (by
    intro u hu
    simp at hu
    subst hu
    exact h1)
  apply def_nx (st := [.pu (.tup [N a b])]) rfl rfl
  · unfold r__check_all
    apply sForI_r
    · apply iSeq_t
      walk_at "ev"
    · exact hy
  · exact rfl
theorem run_count (n : Nat) : f_check_count [.pu (.int (n : Int))] = .ok (.non, false) [.pu (.int (n : Int))] := by
  apply def_nx (st := [.pu (.int (n : Int))]) rfl rfl
  · unfold r_check_count
    apply sIf_r (c := false)
    · apply tOr_r (c := false)
      · apply tNot_r (c := true)
        apply tOf_r
        · apply eCallP_r (ds := [.int (n : Int)])
          · walk_at "ev"
          · exact run_whole _
        · rfl
      · rw [if_neg (by decide)]
        apply tOf_r
        · walk_at "ev"
        · simp
    · exact rfl
  · exact rfl
theorem run_power {a b : Int} {B : Nat} (h : Nb a b) (ha : a.natAbs < 2 ^ B) (hb : b.natAbs < 2 ^ B) (h0 : 0 < B) (n : Nat) (hn : n ≤ 100) (hB : B ≤ 7000) : f_power [.pu (N a b), .pu (.int (n : Int))] = .ok (N (a ^ n) (b ^ n), false) [.pu (N a b), .pu (.int (n : Int))] := by
  have hlen : (rngD 0 (n : Int).toNat).length = n := by unfold rngD; simp
  obtain ⟨y, hy⟩ := power_loop ha hb h0 (.pu (.int (n : Int))) (rngD 0 (n : Int).toNat) 1 1 .un 1 (by decide) (by decide) (by decide) (by rw [hlen]; have : B * (n + 1) ≤ 7000 * 101 := Nat.mul_le_mul hB (by omega); omega)
  rw [hlen, Int.one_mul, Int.one_mul] at hy
  apply def_rt rfl rfl
  · unfold r_power
    apply sSeq_r
    · apply sDrop_r
      apply eCallP_r (ds := [.tup [N a b]])
      · walk_at "ev"
      · exact run_check1 a b h
    · apply sSeq_r
      · apply sDrop_r
        apply eCallP_r (ds := [.int (n : Int)])
        · walk_at "ev"
        · exact run_count n
      · apply sSeq_r (st1 := [.pu (N a b), .pu (.int (n : Int)), .pu (.int 1), .pu (.int 1), .un])
        · apply sUnp_r
          · exact eC_r
          · exact rfl
        · apply sSeq_r
          · apply sForI_r
            · apply iRng_r
              · walk_at "ev"
              · omega
            · exact hy
          · walk_at "ev"
  · exact rfl
end G
end

end

section
set_option Elab.async false
set_option linter.all false
set_option maxRecDepth 100000
set_option maxHeartbeats 2000000
set_option exponentiation.threshold 10000
noncomputable section
namespace G
open PySem L2 TX
theorem due_loop {a b : Int} {B : Nat} (h : Nb a b) (ha : a.natAbs < 2 ^ B) (hb : b.natAbs < 2 ^ B) (h0 : 0 < B) (n : Sl) : ∀ (L : List D) (i : Nat) (x : Sl), B * (i + L.length + 1) ≤ 7000 →
    ∃ y, sFor (putN [] 3) (sSet [] 2 (eCallP (aCons (eVar 2) (aCons (eVar 0) aNil)) id f__law_times)) L [.pu (N a b), n, .pu (N (a ^ i) (b ^ i)), x] = .nx [.pu (N a b), n, .pu (N (a ^ (i + L.length)) (b ^ (i + L.length))), y]
  | [], i, x, _ => ⟨x, rfl⟩
  | d :: L, i, x, hs => by
    rw [List.length_cons] at hs
    have e0 : i + (L.length + 1) + 1 = (i + 1) + L.length + 1 := by omega
    obtain ⟨y, hy⟩ := due_loop h ha hb h0 n L (i + 1) (.pu d) (by rw [← e0]; exact hs)
    refine ⟨y, ?_⟩
    have hi : B * i + B ≤ 7000 := by
      have : B * (i + 1) ≤ B * (i + (L.length + 1) + 1) := Nat.mul_le_mul_left B (by omega)
      rw [Nat.mul_succ] at this
      omega
    have pa := pow_lt' ha h0 i
    have pb := pow_lt' hb h0 i
    have nbi := nb_pow h i
    have hq : b ^ i * b ≠ 0 := Int.mul_ne_zero (by have := nbi.1; omega) (by have := h.1; omega)
    have run := run_ltimes (a ^ i) (b ^ i) a b hq (mOk_of pa ha (by omega) h0 (by omega)) (mOk_of pb hb (by omega) h0 (by omega)) (log_lt (mul_step pb hb) (by omega) (by omega))
    rw [← Int.pow_succ, ← Int.pow_succ, nm_id (nb_pow h (i + 1))] at run
    apply sFor_cons (st1 := [.pu (N a b), n, .pu (N (a ^ i) (b ^ i)), .pu d]) (s := [.pu (N a b), n, .pu (N (a ^ (i + 1)) (b ^ (i + 1))), .pu d])
    · exact rfl
    · apply sSet_r
      · apply eCallP_r (ds := [N (a ^ i) (b ^ i), N a b])
        · walk_at "ev"
        · exact run
      · walk_at "ev"
    · rw [hy]
      have e : i + (d :: L).length = i + 1 + L.length := by rw [List.length_cons]; omega
      rw [e]
theorem run_power_right {u : D} {B : Nat} (hu : Gd B u) (h0 : 0 < B) (n : Nat) (hn : n ≤ 100) (hB : B * (n + 1) ≤ 7000) : f__law_power_right [.pu u, .pu (.int (n : Int))] = .ok (.bl true, false) [.pu u, .pu (.int (n : Int))] := by
  obtain ⟨a, b, rfl, h, ha, hb⟩ := hu
  have hlen : (rngD 0 (n : Int).toNat).length = n := by unfold rngD; simp
  obtain ⟨y, hy⟩ := due_loop h ha hb h0 (.pu (.int (n : Int))) (rngD 0 (n : Int).toNat) 0 .un (by rw [hlen, Nat.zero_add]; exact hB)
  rw [hlen, Nat.zero_add, Int.pow_zero, Int.pow_zero] at hy
  have hB2 : B ≤ 7000 := Nat.le_trans (Nat.le_mul_of_pos_right B (by omega)) hB
  have rp := run_power h ha hb h0 n hn hB2
  apply def_rt rfl rfl
  · unfold r__law_power_right
    apply sSeq_r (st1 := [.pu (N a b), .pu (.int (n : Int)), .pu (N 1 1), .un])
    · walk_at "ev"
    · apply sSeq_r
      · apply sForI_r
        · apply iRng_r
          · walk_at "ev"
          · omega
        · exact hy
      · apply sRet_r
        apply same_ok (d := .lst [N (a ^ n) (b ^ n), N (a ^ n) (b ^ n)])
        · exact lst2 (both rfl rfl rfl rp) (by simp)
        · apply eLst_r
          · walk_at "ev"
          · simp
          · exact rfl
        · exact rfl
        · exact rfl
        · exact pt_l (by simp) fun d hd => by
            simp at hd; subst hd; exact pt_n 5 _ _
  · exact rfl
end G
end

end

section
set_option Elab.async false
set_option linter.all false
set_option maxRecDepth 100000
set_option maxHeartbeats 2000000
set_option exponentiation.threshold 10000
noncomputable section
namespace G
open PySem L2 TX
abbrev Np (u : Int × Int) : D := N u.1 u.2
def nmP (p q : Int) : Int × Int := (p.fdiv (sgcd p q), q.fdiv (sgcd p q))
theorem nm_np (p q : Int) : nm p q = Np (nmP p q) := rfl
def plusP (u v : Int × Int) : Int × Int := nmP (u.1 * v.2 + v.1 * u.2) (u.2 * v.2)
/-- a number of fewer than B bits -/
def Gp (B : Nat) (u : Int × Int) : Prop := Nb u.1 u.2 ∧ u.1.natAbs < 2 ^ B ∧ u.2.natAbs < 2 ^ B
theorem gp_of {B : Nat} {u : Int × Int} (h : Gd B (Np u)) : Gp B u := by
  obtain ⟨a, b, e, h1, h2, h3⟩ := h
  have e1 : u.1 = a ∧ u.2 = b := by
    have e' : [D.int u.1, D.int u.2] = [D.int a, D.int b] := D.tup.inj e
    simp only [List.cons.injEq, D.int.injEq, and_true] at e'
    exact e'
  exact ⟨by rw [e1.1, e1.2]; exact h1, by rw [e1.1]; exact h2, by rw [e1.2]; exact h3⟩
theorem plus_gp {B C : Nat} {u v : Int × Int} (hu : Gp B u) (hv : Gp C v) : Gp (B + C + 1) (plusP u v) := by
  have hq : u.2 * v.2 ≠ 0 := Int.mul_ne_zero (by have := hu.1.1; omega) (by have := hv.1.1; omega)
  have h1 := mul_step hu.2.1 hv.2.2
  have h2 := mul_step hv.2.1 hu.2.2
  rw [Nat.add_comm C B] at h2
  have h3 := mul_step hu.2.2 hv.2.2
  have e : 2 ^ (B + C + 1) = 2 ^ (B + C) + 2 ^ (B + C) := by rw [Nat.pow_succ]; omega
  have s : (u.1 * v.2 + v.1 * u.2).natAbs ≤ (u.1 * v.2).natAbs + (v.1 * u.2).natAbs := Int.natAbs_add_le _ _
  exact gp_of (nm_gd hq (by omega) (by omega))
theorem plus_runs {B C : Nat} {u v : Int × Int} (hu : Gp B u) (hv : Gp C v) (h0 : 0 < B) (h1 : 0 < C) (hs : B + C ≤ 7000) : mOk u.1 v.2 ∧ mOk v.1 u.2 ∧ mOk u.2 v.2 ∧ u.2 * v.2 ≠ 0 ∧ (u.2 * v.2).natAbs.log2 < 9000 :=
  ⟨mOk_of hu.2.1 hv.2.2 h0 h1 (by omega), mOk_of hv.2.1 hu.2.2 h1 h0 (by omega), mOk_of hu.2.2 hv.2.2 h0 h1 (by omega), Int.mul_ne_zero (by have := hu.1.1; omega) (by have := hv.1.1; omega), log_lt (mul_step hu.2.2 hv.2.2) (by omega) (by omega)⟩
theorem total_loop {B : Nat} (h0 : 0 < B) (d : Sl) : ∀ (L : List (Int × Int)) (f : Int × Int) (x : Sl) (K : Nat), (∀ u ∈ L, Gp B u) → 0 < K → Gp K f → K + (B + 1) * L.length ≤ 6900 →
    ∃ y, sFor (putN [] 2) (sSet [] 1 (eCallP (aCons (eBin fAdd (eBin fMul (eIxV 1 (eC (.int 0))) (eIxV 2 (eC (.int 1)))) (eBin fMul (eIxV 2 (eC (.int 0))) (eIxV 1 (eC (.int 1))))) (aCons (eBin fMul (eIxV 1 (eC (.int 1))) (eIxV 2 (eC (.int 1)))) aNil)) id f_number)) (L.map Np) [d, .pu (Np f), x] = .nx [d, .pu (Np (L.foldl plusP f)), y]
  | [], f, x, _, _, _, _, _ => ⟨x, rfl⟩
  | u :: L, f, x, K, hL, hK, hf, hs => by
    rw [List.length_cons, Nat.mul_succ] at hs
    have hu := hL u List.mem_cons_self
    have hp : Gp (K + (B + 1)) (plusP f u) := plus_gp hf hu
    obtain ⟨y, hy⟩ := total_loop h0 d L (plusP f u) (.pu (Np u)) (K + (B + 1)) (fun v hv => hL v (List.mem_cons_of_mem _ hv)) (by omega) hp (by omega)
    refine ⟨y, ?_⟩
    obtain ⟨m1, m2, m3, hq, hl⟩ := plus_runs hf hu hK h0 (by omega)
    apply sFor_cons (st1 := [d, .pu (Np f), .pu (Np u)]) (s := [d, .pu (Np (plusP f u)), .pu (Np u)])
    · exact rfl
    · apply sSet_r
      · apply eCallP_r
        · walk_at "ev"
        · exact run_num hq hl
      · walk_at "ev"
    · exact hy
/-- a row: a list or a tuple of numbers -/
def Row (d : D) (L : List (Int × Int)) : Prop := d = .lst (L.map Np) ∨ d = .tup (L.map Np)
theorem row_iter {d : D} {L : List (Int × Int)} (h : Row d L) {i : Nat} {st : List Sl} (hi : st[i]? = some (.pu d)) : iSeq (eVar i) st = .ok (L.map Np) st := by
  rcases h with rfl | rfl
  · exact iSeq_l (eVar_r hi)
  · exact iSeq_t (eVar_r hi)
theorem run_checkR {d : D} {L : List (Int × Int)} (h : Row d L) (hn : ∀ u ∈ L, Nb u.1 u.2) : f__check_all [.pu d] = .ok (.non, false) [.pu d] := by
  obtain ⟨y, hy⟩ := run_checkL L (.pu d) .un hn
  apply def_nx (st := [.pu d]) rfl rfl
  · unfold r__check_all
    apply sForI_r
    · exact row_iter h rfl
    · exact hy
  · exact rfl
theorem zero_gp : Gp 1 (0, 1) := ⟨⟨by decide, by decide⟩, by decide, by decide⟩
theorem run_total {d : D} {L : List (Int × Int)} (h : Row d L) {B : Nat} (h0 : 0 < B) (hL : ∀ u ∈ L, Gp B u) (hs : 1 + (B + 1) * L.length ≤ 6900) : f_total [.pu d] = .ok (Np (L.foldl plusP (0, 1)), false) [.pu d] := by
  obtain ⟨y, hy⟩ := total_loop h0 (.pu d) L (0, 1) .un 1 hL (by decide) zero_gp hs
  apply def_rt (st := [.pu d]) rfl rfl
  · unfold r_total
    apply sSeq_r
    · apply sDrop_r
      apply eCallP_r (ds := [d])
      · walk_at "ev"
      · exact run_checkR h fun u hu => (hL u hu).1
    · apply sSeq_r (st1 := [.pu d, .pu (Np (0, 1)), .un])
      · exact rfl
      · apply sSeq_r
        · apply sForI_r
          · exact row_iter h rfl
          · exact hy
        · exact rfl
  · exact rfl
end G
end

end

section
set_option Elab.async false
set_option linter.all false
set_option maxRecDepth 100000
set_option maxHeartbeats 2000000
set_option exponentiation.threshold 10000
noncomputable section
namespace G
open PySem L2 TX
def lt (u v : Int × Int) : Prop := u.1 * v.2 < v.1 * u.2
instance (u v : Int × Int) : Decidable (lt u v) := inferInstanceAs (Decidable (_ < _))
theorem lt_trans' {u v w : Int × Int} (hu : 0 < u.2) (hv : 0 < v.2) (hw : 0 < w.2) (h : lt u v) (k : lt v w) : lt u w := by
  unfold lt at *
  have a := Int.mul_lt_mul_of_pos_right h hw
  have b := Int.mul_lt_mul_of_pos_right k hu
  have e1 : v.1 * u.2 * w.2 = v.1 * w.2 * u.2 := by rw [Int.mul_assoc, Int.mul_comm u.2, ← Int.mul_assoc]
  have e2 : u.1 * v.2 * w.2 = v.2 * (u.1 * w.2) := by rw [Int.mul_comm u.1, Int.mul_assoc]
  have e3 : w.1 * v.2 * u.2 = v.2 * (w.1 * u.2) := by rw [Int.mul_comm w.1, Int.mul_assoc]
  rw [e1, e2] at a
  rw [e3] at b
  exact Int.lt_of_mul_lt_mul_left (by omega) (Int.le_of_lt hv)
/-- the least one, the first of these -/
def leastF (f : Int × Int) (L : List (Int × Int)) : Int × Int := L.foldl (fun m a => if lt a m then a else m) f
def greatF (f : Int × Int) (L : List (Int × Int)) : Int × Int := L.foldl (fun m a => if lt m a then a else m) f
theorem least_spec : ∀ (L : List (Int × Int)) (f : Int × Int), 0 < f.2 → (∀ u ∈ L, 0 < u.2) → (leastF f L = f ∨ leastF f L ∈ L) ∧ ¬ lt f (leastF f L) ∧ (∀ u ∈ L, ¬ lt u (leastF f L)) ∧ 0 < (leastF f L).2
  | [], f, hf, _ => ⟨.inl rfl, (show ¬ lt f f by unfold lt; omega), fun u hu => (by cases hu), hf⟩
  | a :: L, f, hf, hL => by
    have ha := hL a List.mem_cons_self
    have hL' : ∀ u ∈ L, 0 < u.2 := fun u hu => hL u (List.mem_cons_of_mem _ hu)
    by_cases h : lt a f
    · have e : leastF f (a :: L) = leastF a L := by show leastF (if lt a f then a else f) L = _; rw [if_pos h]
      obtain ⟨h1, h2, h3, h4⟩ := least_spec L a ha hL'
      rw [e]
      refine ⟨.inr ?_, fun z => h2 (lt_trans' ha hf h4 h z), fun u hu => ?_, h4⟩
      · rcases h1 with h1 | h1
        · rw [h1]; exact List.mem_cons_self
        · exact List.mem_cons_of_mem _ h1
      · rcases List.mem_cons.mp hu with rfl | hu
        · exact h2
        · exact h3 u hu
    · have e : leastF f (a :: L) = leastF f L := by show leastF (if lt a f then a else f) L = _; rw [if_neg h]
      obtain ⟨h1, h2, h3, h4⟩ := least_spec L f hf hL'
      rw [e]
      refine ⟨?_, h2, fun u hu => ?_, h4⟩
      · rcases h1 with h1 | h1
        · exact .inl h1
        · exact .inr (List.mem_cons_of_mem _ h1)
      · rcases List.mem_cons.mp hu with rfl | hu
        · intro z
          -- u < m and not f < m; then u < f
          apply h
          unfold lt at *
          generalize leastF f L = m at *
          have hm : 0 < m.2 := h4
          have q1 : m.1 * f.2 ≤ f.1 * m.2 := by omega
          have a1 := Int.mul_lt_mul_of_pos_right z hf
          have a2 := Int.mul_le_mul_of_nonneg_right q1 (Int.le_of_lt ha)
          have e1 : u.1 * m.2 * f.2 = m.2 * (u.1 * f.2) := by rw [Int.mul_comm u.1, Int.mul_assoc]
          have e2 : m.1 * u.2 * f.2 = m.1 * f.2 * u.2 := by rw [Int.mul_assoc, Int.mul_comm u.2, ← Int.mul_assoc]
          have e3 : f.1 * m.2 * u.2 = m.2 * (f.1 * u.2) := by rw [Int.mul_comm f.1, Int.mul_assoc]
          rw [e1, e2] at a1
          rw [e3] at a2
          exact Int.lt_of_mul_lt_mul_left (by omega) (Int.le_of_lt hm)
        · exact h3 u hu
theorem neg_lt {u v : Int × Int} : lt (-u.1, u.2) (-v.1, v.2) ↔ lt v u := by
  unfold lt
  show -u.1 * v.2 < -v.1 * u.2 ↔ _
  rw [Int.neg_mul, Int.neg_mul]
  omega
theorem great_least : ∀ (L : List (Int × Int)) (f : Int × Int), leastF (-f.1, f.2) (L.map fun u => (-u.1, u.2)) = (-(greatF f L).1, (greatF f L).2)
  | [], f => rfl
  | a :: L, f => by
    show leastF (if lt (-a.1, a.2) (-f.1, f.2) then (-a.1, a.2) else (-f.1, f.2)) (L.map fun u => (-u.1, u.2)) = (-(greatF (if lt f a then a else f) L).1, (greatF (if lt f a then a else f) L).2)
    by_cases h : lt f a
    · rw [if_pos h, if_pos (neg_lt.mpr h)]
      exact great_least L a
    · rw [if_neg h, if_neg fun z => h (neg_lt.mp z)]
      exact great_least L f
theorem great_spec (L : List (Int × Int)) (f : Int × Int) (hf : 0 < f.2) (hL : ∀ u ∈ L, 0 < u.2) : (greatF f L = f ∨ greatF f L ∈ L) ∧ ¬ lt (greatF f L) f ∧ (∀ u ∈ L, ¬ lt (greatF f L) u) := by
  obtain ⟨h1, h2, h3, _⟩ := least_spec (L.map fun u => (-u.1, u.2)) (-f.1, f.2) hf (by intro u hu; obtain ⟨v, hv, rfl⟩ := List.mem_map.mp hu; exact hL v hv)
  rw [great_least] at h1 h2 h3
  refine ⟨?_, fun z => h2 (neg_lt.mpr z), fun u hu z => h3 (-u.1, u.2) (List.mem_map.mpr ⟨u, hu, rfl⟩) (neg_lt.mpr z)⟩
  rcases h1 with h1 | h1
  · left
    have e1 := (Prod.mk.injEq _ _ _ _).mp h1
    exact Prod.ext (by omega) e1.2
  · right
    obtain ⟨v, hv, e⟩ := List.mem_map.mp h1
    have e1 := (Prod.mk.injEq _ _ _ _).mp e
    have : greatF f L = v := Prod.ext (by omega) e1.2.symm
    rw [this]
    exact hv
end G
end

end

section
set_option Elab.async false
set_option linter.all false
set_option maxRecDepth 100000
set_option maxHeartbeats 2000000
set_option exponentiation.threshold 10000
noncomputable section
namespace G
open PySem L2 TX
theorem row_len {d : D} {L : List (Int × Int)} (h : Row d L) : fLen d = some (.int (L.length : Int), false) := by
  rcases h with rfl | rfl
  · show some (D.int ((L.map Np).length : Int), false) = _; rw [List.length_map]
  · show some (D.int ((L.map Np).length : Int), false) = _; rw [List.length_map]
theorem row_first {d : D} {f : Int × Int} {L : List (Int × Int)} (h : Row d (f :: L)) : fIx d (.int 0) = some (Np f, false) := by
  rcases h with rfl | rfl
  · exact fIx_lst (atI_nat (k := 0) (by simp))
  · exact fIx_tup (atI_nat (k := 0) (by simp))
theorem run_check_not_empty {d : D} {f : Int × Int} {L : List (Int × Int)} (h : Row d (f :: L)) (hn : ∀ u ∈ f :: L, Nb u.1 u.2) : f__check_not_empty [.pu d] = .ok (.non, false) [.pu d] := by
  apply def_nx (st := [.pu d]) rfl rfl
  · unfold r__check_not_empty
    apply sSeq_r
    · apply sIf_r (c := false)
      · apply tOf_r
        · apply eBin_r
          · apply eV1_r
            · exact rfl
            · exact row_len h
          · exact eC_r
          · exact fEqI_r
        · simp
          omega
      · exact rfl
    · apply sDrop_r
      apply eCallP_r (ds := [d])
      · walk_at "ev"
      · exact run_checkR h hn
  · exact rfl
theorem least_loop {B : Nat} (h0 : 0 < B) (hB : B ≤ 7000) (d : Sl) : ∀ (L : List (Int × Int)) (f : Int × Int) (x : Sl), (∀ u ∈ L, Gp B u) → Gp B f →
    ∃ y, sFor (putN [] 2) (sIf (tOf (eCallP (aCons (eVar 2) (aCons (eVar 1) aNil)) id f__is_less)) (sSet [] 1 (eVar 2)) sSkip) (L.map Np) [d, .pu (Np f), x] = .nx [d, .pu (Np (leastF f L)), y]
  | [], f, x, _, _ => ⟨x, rfl⟩
  | u :: L, f, x, hL, hf => by
    have hu := hL u List.mem_cons_self
    have hL' : ∀ v ∈ L, Gp B v := fun v hv => hL v (List.mem_cons_of_mem _ hv)
    have run := run_is_less u.1 u.2 f.1 f.2 (mOk_of hu.2.1 hf.2.2 h0 h0 (by omega)) (mOk_of hf.2.1 hu.2.2 h0 h0 (by omega))
    obtain ⟨y, hy⟩ := least_loop h0 hB d L (if lt u f then u else f) (.pu (Np u)) hL' (by split <;> assumption)
    refine ⟨y, ?_⟩
    apply sFor_cons (st1 := [d, .pu (Np f), .pu (Np u)]) (s := [d, .pu (Np (if lt u f then u else f)), .pu (Np u)])
    · exact rfl
    · apply sIf_r (c := decide (lt u f)) (st1 := [d, .pu (Np f), .pu (Np u)])
      · apply tOf_r
        · apply eCallP_r (ds := [Np u, Np f])
          · walk_at "ev"
          · exact run
        · exact rfl
      · by_cases h : lt u f
        · rw [if_pos (decide_eq_true h), if_pos h]
          walk_at "ev"
        · rw [if_neg (by simp [h]), if_neg h]
          exact rfl
    · exact hy
theorem great_loop {B : Nat} (h0 : 0 < B) (hB : B ≤ 7000) (d : Sl) : ∀ (L : List (Int × Int)) (f : Int × Int) (x : Sl), (∀ u ∈ L, Gp B u) → Gp B f →
    ∃ y, sFor (putN [] 2) (sIf (tOf (eCallP (aCons (eVar 1) (aCons (eVar 2) aNil)) id f__is_less)) (sSet [] 1 (eVar 2)) sSkip) (L.map Np) [d, .pu (Np f), x] = .nx [d, .pu (Np (greatF f L)), y]
  | [], f, x, _, _ => ⟨x, rfl⟩
  | u :: L, f, x, hL, hf => by
    have hu := hL u List.mem_cons_self
    have hL' : ∀ v ∈ L, Gp B v := fun v hv => hL v (List.mem_cons_of_mem _ hv)
    have run := run_is_less f.1 f.2 u.1 u.2 (mOk_of hf.2.1 hu.2.2 h0 h0 (by omega)) (mOk_of hu.2.1 hf.2.2 h0 h0 (by omega))
    obtain ⟨y, hy⟩ := great_loop h0 hB d L (if lt f u then u else f) (.pu (Np u)) hL' (by split <;> assumption)
    refine ⟨y, ?_⟩
    apply sFor_cons (st1 := [d, .pu (Np f), .pu (Np u)]) (s := [d, .pu (Np (if lt f u then u else f)), .pu (Np u)])
    · exact rfl
    · apply sIf_r (c := decide (lt f u)) (st1 := [d, .pu (Np f), .pu (Np u)])
      · apply tOf_r
        · apply eCallP_r (ds := [Np f, Np u])
          · walk_at "ev"
          · exact run
        · exact rfl
      · by_cases h : lt f u
        · rw [if_pos (decide_eq_true h), if_pos h]
          walk_at "ev"
        · rw [if_neg (by simp [h]), if_neg h]
          exact rfl
    · exact hy
theorem run_least {d : D} {f : Int × Int} {L : List (Int × Int)} (h : Row d (f :: L)) {B : Nat} (h0 : 0 < B) (hB : B ≤ 7000) (hL : ∀ u ∈ f :: L, Gp B u) : f_least [.pu d] = .ok (Np (leastF f (f :: L)), false) [.pu d] := by
  obtain ⟨y, hy⟩ := least_loop h0 hB (.pu d) (f :: L) f .un hL (hL f List.mem_cons_self)
  apply def_rt (st := [.pu d]) rfl rfl
  · unfold r_least
    apply sSeq_r
    · apply sDrop_r
      apply eCallP_r (ds := [d])
      · walk_at "ev"
      · exact run_check_not_empty h fun u hu => (hL u hu).1
    · apply sSeq_r (st1 := [.pu d, .pu (Np f), .un])
      · apply sSet_r
        · apply eIxV_r
          · exact rfl
          · exact eC_r
          · exact rfl
          · exact row_first h
        · walk_at "ev"
      · apply sSeq_r
        · apply sForI_r
          · exact row_iter h rfl
          · exact hy
        · exact rfl
  · exact rfl
theorem run_greatest {d : D} {f : Int × Int} {L : List (Int × Int)} (h : Row d (f :: L)) {B : Nat} (h0 : 0 < B) (hB : B ≤ 7000) (hL : ∀ u ∈ f :: L, Gp B u) : f_greatest [.pu d] = .ok (Np (greatF f (f :: L)), false) [.pu d] := by
  obtain ⟨y, hy⟩ := great_loop h0 hB (.pu d) (f :: L) f .un hL (hL f List.mem_cons_self)
  apply def_rt (st := [.pu d]) rfl rfl
  · unfold r_greatest
    apply sSeq_r
    · apply sDrop_r
      apply eCallP_r (ds := [d])
      · walk_at "ev"
      · exact run_check_not_empty h fun u hu => (hL u hu).1
    · apply sSeq_r (st1 := [.pu d, .pu (Np f), .un])
      · apply sSet_r
        · apply eIxV_r
          · exact rfl
          · exact eC_r
          · exact rfl
          · exact row_first h
        · walk_at "ev"
      · apply sSeq_r
        · apply sForI_r
          · exact row_iter h rfl
          · exact hy
        · exact rfl
  · exact rfl
end G
end

end

section
set_option Elab.async false
set_option linter.all false
set_option maxRecDepth 100000
set_option maxHeartbeats 2000000
set_option exponentiation.threshold 10000
noncomputable section
namespace TX
open PySem L2
section
variable {st st1 st2 a' : List Sl} {a b : EvE} {ea er : EvA} {t : EvT} {x : R1} {d : D} {ds es : List D} {c : Nat}
theorem aCons_x1 (ha : a st = .ex c d st1) : aCons a er st = .ex c d st1 := by unfold aCons; rw [ha]; rfl
theorem aCons_x2 (ha : a st = .ok x st1) (hr : er st1 = .ex c d st2) : aCons a er st = .ex c d st2 := by unfold aCons; rw [ha]; show (er st1).bind _ = _; rw [hr]; rfl
theorem eLst_x (ha : ea st = .ex c d st1) : eLst ea st = .ex c d st1 := by unfold eLst; rw [ha]; rfl
theorem eIf_o {o : O R1} {k : Bool} (ht : t st = .ok k st1) (h : (if k = true then a st1 else b st1) = o) : eIf t a b st = o := by unfold eIf; rw [ht]; exact h
theorem sSet_x {P : List Nat} {i : Nat} (h : a st = .ex c d st1) : sSet P i a st = .ex c d st1 := by unfold sSet; rw [h]; rfl
theorem eCallK_x {m n : Nat} {pm : List D → List D} {φ : EvE} {eb : EvA} (ha : ea st = .ok ds st1) (hb : eb st1 = .ok es st2) (hc : ds.length = n ∧ es.length = m) (hf : φ (pus (pm (ds ++ es))) = .ex c d a') : eCallK ea eb m n pm φ st = .ex c d st2 := by
  unfold eCallK; rw [ha]; show (eb st1).bind _ = _; rw [hb]; show (if ds.length = n ∧ es.length = m then _ else O.no) = _; rw [if_pos hc]
  show (match φ (pus (pm (ds ++ es))) with | .ok z _ => O.ok z st2 | .ex c d _ => .ex c d st2 | .no => .no) = _
  rw [hf]
end
end TX
namespace G
open PySem L2 TX
theorem number0 (p : Int) : f_number [.pu (.int p), .pu (.int 0)] = .ex 2 (.int p) [.pu (.int p), .pu (.int 0)] := by
  apply def_ex (st := [.pu (.int p), .pu (.int 0)]) rfl rfl
  · unfold r_number
    apply sSeq_ex
    apply sIf_r (c := true)
    · walk_at "ev"
    · rw [if_pos rfl]
      apply sRaise_r
      · walk_at "ev"
      · exact rfl
  · exact rfl
theorem by0 {u : Int × Int} (h : Nb u.1 u.2) : f_by [.pu (Np u), .pu (N 0 1)] = .ex 2 (Np u) [.pu (Np u), .pu (N 0 1)] := by
  apply def_ex (st := [.pu (Np u), .pu (N 0 1)]) rfl rfl
  · unfold r_by
    apply sSeq_r
    · apply sDrop_r
      apply eCallP_r (ds := [.tup [Np u, N 0 1]])
      · walk_at "ev"
      · exact run_check2 u.1 u.2 0 1 h zero_gp.1
    · apply sSeq_ex
      apply sIf_r (c := true)
      · apply tOf_r
        · apply eBinV_r
          · exact rfl
          · exact eC_r
          · exact rfl
          · exact fEq_zero
        · rfl
      · rw [if_pos rfl]
        apply sRaise_r
        · walk_at "ev"
        · exact rfl
  · exact rfl
theorem div_end {cl : Nat → Addr} {d0 u nm0 v : D} {ds : List D} {body : EvS} (hb : body [.pu d0, .pu u, .pu nm0, .ow ds, .un] = .ex 2 v [.pu d0, .pu u, .pu nm0, .ow ds, .un]) :
    sTry [] cl mt 3 body ((1, some 4, sSet [] 3 (eLst (aCons (eC (.str "number")) (aCons (eUn fVal (eVar 4)) (aNil))))) :: (2, some 4, sSet [] 3 (eLst (aCons (eC (.str "zero")) (aCons (eUn fVal (eVar 4)) (aNil))))) :: []) [.pu d0, .pu u, .pu nm0, .ow ds, .un] = .nx [.pu d0, .pu u, .pu nm0, .ow [.str "zero", v], .un] := by
  unfold sTry
  rw [hb]
  exact rfl
theorem run_divided (cl : Nat → Addr) {u : Int × Int} (h : Nb u.1 u.2) (b : Bool) : f__law_divided cl [.pu (.int 0), .pu (Np u), .pu (.bl b)] = .ok (.lst [.str "zero", .int u.1], true) [.pu (.int 0), .pu (Np u), .pu (.bl b)] ∧
    f__law_divided cl [.pu (.int 1), .pu (Np u), .pu (.bl b)] = .ok (.lst [.str "zero", Np u], true) [.pu (.int 1), .pu (Np u), .pu (.bl b)] := by
  constructor
  · apply def_rt (st := [.pu (.int 0), .pu (Np u), .pu (.bl b)]) rfl rfl
    · unfold r__law_divided
      apply sSeq_r (st1 := [.pu (.int 0), .pu (Np u), .pu (.bl b), .ow [.str "", .non], .un])
      · exact rfl
      · apply sSeq_r
        · apply div_end (v := .int u.1)
          apply sIf_r (c := true)
          · walk_at "ev"
          · rw [if_pos rfl]
            apply sSet_x
            apply eLst_x
            apply aCons_x2
            · exact eC_r
            · apply aCons_x1
              apply eIf_o (k := b)
              · walk_at "ev"
              · cases b with
                | true =>
                  rw [if_pos rfl]
                  apply eCallK_x (ds := []) (es := [.int 0, .int u.1])
                  · exact aNil_r
                  · walk_at "ev"
                  · simp
                  · exact number0 u.1
                | false =>
                  rw [if_neg (by decide)]
                  apply eCallP_x (ds := [.int u.1, .int 0])
                  · walk_at "ev"
                  · exact number0 u.1
        · exact rfl
    · exact rfl
  · apply def_rt (st := [.pu (.int 1), .pu (Np u), .pu (.bl b)]) rfl rfl
    · unfold r__law_divided
      apply sSeq_r (st1 := [.pu (.int 1), .pu (Np u), .pu (.bl b), .ow [.str "", .non], .un])
      · exact rfl
      · apply sSeq_r
        · apply div_end (v := Np u)
          apply sIf_r (c := false)
          · walk_at "ev"
          · rw [if_neg (by decide)]
            apply sSet_x
            apply eLst_x
            apply aCons_x2
            · exact eC_r
            · apply aCons_x1
              apply eIf_o (k := b)
              · walk_at "ev"
              · cases b with
                | true =>
                  rw [if_pos rfl]
                  apply eCallK_x (ds := []) (es := [N 0 1, Np u])
                  · exact aNil_r
                  · walk_at "ev"
                  · simp
                  · exact by0 h
                | false =>
                  rw [if_neg (by decide)]
                  apply eCallP_x (ds := [Np u, N 0 1])
                  · walk_at "ev"
                  · exact by0 h
        · exact rfl
    · exact rfl
end G
end

end

section
set_option Elab.async false
set_option linter.all false
set_option maxRecDepth 100000
set_option maxHeartbeats 2000000
set_option exponentiation.threshold 10000
noncomputable section
namespace G
open PySem L2 TX
theorem run_lawis (p q : Int) : f__law_is [.pu (N p q)] = .ok (.bl (decide (Nb p q)), false) [.pu (N p q)] := by
  apply def_rt (st := [.pu (N p q)]) rfl rfl
  · unfold r__law_is
    apply sRet_r
    apply eAnd_r (c := decide (0 < q))
    · walk_at "ev"
    · rfl
    · by_cases h : 0 < q
      · rw [if_pos (decide_eq_true h)]
        have e : decide (Nb p q) = decide (((Nat.gcd p.natAbs q.natAbs : Nat) : Int) = 1) := by
          unfold Nb
          have : (0 < q ∧ Nat.gcd p.natAbs q.natAbs = 1) ↔ ((Nat.gcd p.natAbs q.natAbs : Nat) : Int) = 1 := by constructor <;> intro z <;> omega
          exact decide_eq_decide.mpr this
        rw [e]
        have hp : (if p < 0 then -p else p) = (p.natAbs : Int) := by split <;> omega
        have hq : q = (q.natAbs : Int) := by omega
        apply eBin_r
        · apply eCallP_r (ds := [.int (p.natAbs : Int), .int (q.natAbs : Int)])
          · rw [← hp, ← hq]
            walk_at "ev"
          · exact run_gcd _ _
        · exact eC_r
        · exact fEqI_r
      · rw [if_neg (by simp [h])]
        have e : decide (Nb p q) = false := decide_eq_false fun z => h z.1
        rw [e]
  · exact rfl
theorem run_couple {l : List D} (hl : Dk l) : ∃ (u : Int × Int) (l' : List D), f__law_couple [.ow l] = .ok (Np u, false) [.ow l'] ∧ u.1.natAbs < 2 ^ 276 ∧ u.2.natAbs < 2 ^ 276 ∧ Dk l' := by
  obtain ⟨p, l1, e1, hp, d1⟩ := run_integer hl
  obtain ⟨q, l2, e2, hq, d2⟩ := run_integer d1
  obtain ⟨w, l3, e3, w0, w1, d3⟩ := run_take d2 4 (by decide) (by decide +kernel)
  obtain ⟨m, l4, e4, m0, m1, d4⟩ := run_take d3 30 (by decide) (by decide +kernel)
  have big : (2 : Nat) ^ 270 ≤ 2 ^ 276 := Nat.pow_le_pow_right (by decide) (by decide)
  have start : sPar [0] 1 2 (aCons (eCallA (.io 0 :: []) f__law_integer) (aCons (eCallA (.io 0 :: []) f__law_integer) aNil)) [.ow l, .un, .un, .un, .un] = .nx [.ow l2, .pu (.int p), .pu (.int q), .un, .un] := by
    apply sPar_r
    · apply aCons_r
      · apply eCallA_io (l := l)
        · exact rfl
        · exact e1
      · apply aCons_r
        · apply eCallA_io (l := l1)
          · exact rfl
          · exact e2
        · exact aNil_r
        · exact rfl
      · exact rfl
    · decide
    · exact rfl
  have way : sSet [0] 3 (eCallA (.io 0 :: .v (eC (.int 4)) :: []) f__law_take) [.ow l2, .pu (.int p), .pu (.int q), .un, .un] = .nx [.ow l3, .pu (.int p), .pu (.int q), .pu (.int w), .un] := by
    apply sSet_r
    · apply eCallA_iov (l := l2) (l1 := l2)
      · exact rfl
      · walk_at "ev"
      · exact rfl
      · exact e3
    · walk_at "ev"
  by_cases c1 : w = 0 ∨ q = 0
  · refine ⟨(p, q), l3, ?_, by show p.natAbs < _; omega, by show q.natAbs < _; omega, d3⟩
    apply def_rt (st := [.ow l]) rfl rfl
    · unfold r__law_couple
      apply sSeq_r
      · exact start
      · apply sSeq_r
        · exact way
        · apply sSeq_rt
          apply sIf_r (c := true) (st1 := [.ow l3, .pu (.int p), .pu (.int q), .pu (.int w), .un])
          · apply tOr_r (c := decide (w = 0))
            · walk_at "ev"
            · by_cases hw : w = 0
              · rw [if_pos (decide_eq_true hw)]
              · rw [if_neg (by simp [hw])]
                apply tOf_r
                · walk_at "ev"
                · simp
                  omega
          · rw [if_pos rfl]
            walk_at "ev"
    · exact rfl
  · have hw : w ≠ 0 := fun z => c1 (.inl z)
    have hz : q ≠ 0 := fun z => c1 (.inr z)
    have t1 : sIf (tOr' (tOf (eBinV (fEq true) 3 (eC (.int 0)))) (tOf (eBinV (fEq true) 2 (eC (.int 0))))) (sRet (eTup (aCons (eVar 1) (aCons (eVar 2) aNil)))) sSkip [.ow l3, .pu (.int p), .pu (.int q), .pu (.int w), .un] = .nx [.ow l3, .pu (.int p), .pu (.int q), .pu (.int w), .un] := by
      apply sIf_r (c := false) (st1 := [.ow l3, .pu (.int p), .pu (.int q), .pu (.int w), .un])
      · apply tOr_r (c := false) (st1 := [.ow l3, .pu (.int p), .pu (.int q), .pu (.int w), .un])
        · apply tOf_r
          · walk_at "ev"
          · simp [hw]
        · rw [if_neg (by decide)]
          apply tOf_r
          · walk_at "ev"
          · simp [hz]
      · exact rfl
    by_cases c2 : w = 1
    · have hm : (2 + m).natAbs < 2 ^ 6 := by omega
      have hab : (if q < 0 then -q else q) = (q.natAbs : Int) := by split <;> omega
      have ha : ((q.natAbs : Int)).natAbs < 2 ^ 270 := by rw [Int.natAbs_natCast]; exact hq
      have k1 : mOk p (2 + m) := mOk_of hp hm (by decide) (by decide) (by decide)
      have k2 : mOk (q.natAbs : Int) (2 + m) := mOk_of ha hm (by decide) (by decide) (by decide)
      refine ⟨(p * (2 + m), (q.natAbs : Int) * (2 + m)), l4, ?_, mul_step hp hm, mul_step ha hm, d4⟩
      apply def_rt (st := [.ow l]) rfl rfl
      · unfold r__law_couple
        apply sSeq_r
        · exact start
        · apply sSeq_r
          · exact way
          · apply sSeq_r
            · exact t1
            · apply sSeq_rt
              apply sIf_r (c := true) (st1 := [.ow l3, .pu (.int p), .pu (.int q), .pu (.int w), .un])
              · apply tOf_r
                · walk_at "ev"
                · simp [c2]
              · rw [if_pos rfl]
                apply sSeq_r (st1 := [.ow l4, .pu (.int p), .pu (.int q), .pu (.int w), .pu (.int (2 + m))])
                · apply sSet_r
                  · apply eBin_r
                    · exact eC_r
                    · apply eCallA_iov (l := l3) (l1 := l3)
                      · exact rfl
                      · walk_at "ev"
                      · exact rfl
                      · exact e4
                    · exact rfl
                  · walk_at "ev"
                · apply sRet_r
                  apply eTup_r (ds := [.int (p * (2 + m)), .int ((q.natAbs : Int) * (2 + m))])
                  · rw [← hab] at k2 ⊢
                    walk_at "ev"
                  · simp
                  · exact rfl
      · exact rfl
    · obtain ⟨a, b, e, _, ha, hb⟩ := nm_gd (p := p) hz hp hq
      refine ⟨(a, b), l3, ?_, by show a.natAbs < _; omega, by show b.natAbs < _; omega, d3⟩
      apply def_rt (st := [.ow l]) rfl rfl
      · unfold r__law_couple
        apply sSeq_r
        · exact start
        · apply sSeq_r
          · exact way
          · apply sSeq_r
            · exact t1
            · apply sSeq_r (st1 := [.ow l3, .pu (.int p), .pu (.int q), .pu (.int w), .un])
              · apply sIf_r (c := false) (st1 := [.ow l3, .pu (.int p), .pu (.int q), .pu (.int w), .un])
                · apply tOf_r
                  · walk_at "ev"
                  · simp [c2]
                · exact rfl
              · apply sRet_r
                apply eCallP_r (ds := [.int p, .int q])
                · walk_at "ev"
                · rw [show Np (a, b) = nm p q from e.symm]
                  exact run_pair hz (log_lt hq (by decide) (by decide))
      · exact rfl
end G
end

end

section
set_option Elab.async false
set_option linter.all false
set_option maxRecDepth 100000
set_option maxHeartbeats 2000000
set_option exponentiation.threshold 10000
noncomputable section
namespace G
open PySem L2 TX
theorem eqv_np (u v : Int × Int) : PyData.eqv (Np u).toP (Np v).toP = decide (u = v) := by
  show PyData.eqv (.tuple [.int u.1, .int u.2]) (.tuple [.int v.1, .int v.2]) = _
  have e : decide (u = v) = (decide (u.1 = v.1) && decide (u.2 = v.2)) := by
    by_cases h : u = v
    · subst h; simp
    · rw [decide_eq_false h]
      by_cases h1 : u.1 = v.1
      · have h2 : u.2 ≠ v.2 := fun z => h (Prod.ext h1 z)
        simp [h2]
      · simp [h1]
  rw [e]
  by_cases h1 : u.1 = v.1 <;> by_cases h2 : u.2 = v.2 <;> simp [PyData.eqv, PyData.eqvAll, h1, h2]
theorem lay_row : ∀ L : List (Int × Int), PyData.canLayAll0 (D.toPs (L.map Np)) = true
  | [] => by first | rfl | simp [D.toPs, PyData.canLayAll0]
  | u :: L => by
    have ih := lay_row L
    show PyData.canLayAll0 ((.tuple [.int u.1, .int u.2]) :: D.toPs (L.map Np)) = true
    simp [PyData.canLayAll0, PyData.canLay0, ih]
theorem depth_row : ∀ L : List (Int × Int), PyData.depthAll (D.toPs (L.map Np)) ≤ 1
  | [] => by first | (show 0 ≤ 1; omega) | simp [D.toPs, PyData.depthAll]
  | u :: L => by
    have ih := depth_row L
    show PyData.depthAll ((.tuple [.int u.1, .int u.2]) :: D.toPs (L.map Np)) ≤ 1
    simp [PyData.depthAll, PyData.depth]
    omega
theorem shaped_row (L : List (Int × Int)) : SeqAt.shaped (D.lst (L.map Np)).toP = true := by
  have h1 : (PyData.list (D.toPs (L.map Np))).canLay0 = true := by simp only [PyData.canLay0]; exact lay_row L
  have h2 : (PyData.list (D.toPs (L.map Np))).depth ≤ 64 := by simp only [PyData.depth]; have := depth_row L; omega
  show ((PyData.list (D.toPs (L.map Np))).canLay0 && decide ((PyData.list (D.toPs (L.map Np))).depth ≤ 64)) = true
  rw [h1, decide_eq_true h2]
  rfl
theorem shaped_np (u : Int × Int) : SeqAt.shaped (Np u).toP = true := rfl
theorem ne_nil (L : List (Int × Int)) : fEq false (.lst (L.map Np)) (.lst []) = some (.bl (!L.isEmpty), false) := by
  have hs := shaped_row L
  show (if (SeqAt.shaped (D.lst (L.map Np)).toP && SeqAt.shaped (PyData.list [])) = true then some (D.bl (PyData.eqv (D.lst (L.map Np)).toP (.list []) == false), false) else none) = _
  rw [hs]
  cases L with
  | nil => rfl
  | cons u L =>
    have : PyData.eqv (D.lst ((u :: L).map Np)).toP (.list []) = false := by
      show PyData.eqv (.list ((.tuple [.int u.1, .int u.2]) :: D.toPs (L.map Np))) (.list []) = false
      simp [PyData.eqv, PyData.eqvAll]
    rw [this]
    rfl
theorem not_in {L : List (Int × Int)} {u : Int × Int} (h : u ∈ L) : fIn false (Np u) (.lst (L.map Np)) = some (.bl false, false) := by
  have hs := shaped_row L
  have ha : ((L.map Np).any fun z => PyData.eqv z.toP (Np u).toP) = true := by
    rw [List.any_map, List.any_eq_true]
    exact ⟨u, h, by show PyData.eqv (Np u).toP (Np u).toP = true; rw [eqv_np]; simp⟩
  unfold fIn
  dsimp only
  rw [if_pos (by rw [hs, shaped_np]; rfl), ha]
  rfl
/-- where it stands first -/
theorem idx_of {L : List (Int × Int)} {u : Int × Int} (h : u ∈ L) : ∃ j : Nat, idxAt (.lst (L.map Np)) (Np u) = some j ∧ fIx (.lst (L.map Np)) (.int (j : Int)) = some (Np u, false) := by
  have hs := shaped_row L
  have hs' : SeqAt.shaped (.list (D.toPs (L.map Np))) = true := hs
  have e : idxAt (.lst (L.map Np)) (Np u) = (D.toPs (L.map Np)).findIdx? fun q => PyData.eqv q (Np u).toP := by
    show (if (SeqAt.shaped (.list (D.toPs (L.map Np))) && SeqAt.shaped (Np u).toP) = true then _ else none) = _
    rw [if_pos (by rw [hs', shaped_np]; rfl)]
  cases ef : (D.toPs (L.map Np)).findIdx? fun q => PyData.eqv q (Np u).toP with
  | none =>
    exfalso
    have hn := List.findIdx?_eq_none_iff.mp ef
    have hm : (Np u).toP ∈ D.toPs (L.map Np) := by rw [D.toPs_map]; exact List.mem_map.mpr ⟨Np u, List.mem_map.mpr ⟨u, h, rfl⟩, rfl⟩
    have := hn _ hm
    rw [eqv_np] at this
    simp at this
  | some j =>
    rw [ef] at e
    obtain ⟨hj, h1, _⟩ := List.findIdx?_eq_some_iff_getElem.mp ef
    have hl : (D.toPs (L.map Np)).length = L.length := by rw [D.toPs_map, List.length_map, List.length_map]
    have hj' : j < L.length := by rw [← hl]; exact hj
    have eg : (D.toPs (L.map Np))[j] = (Np L[j]).toP := by simp only [D.toPs_map, List.getElem_map]
    rw [eg, eqv_np] at h1
    have hu : L[j] = u := of_decide_eq_true h1
    refine ⟨j, e, ?_⟩
    have := atI_nat (ds := L.map Np) (k := j) (by rw [List.length_map]; exact hj')
    rw [List.getElem_map, hu] at this
    exact fIx_lst this
end G
end

end

section
set_option Elab.async false
set_option linter.all false
set_option maxRecDepth 100000
set_option maxHeartbeats 4000000
set_option exponentiation.threshold 10000
noncomputable section
namespace G
open PySem L2 TX
theorem due_sum {B : Nat} (h0 : 0 < B) (s0 s1 s2 s5 s6 s7 : Sl) : ∀ (L : List (Int × Int)) (f : Int × Int) (x : Sl) (K : Nat), (∀ ds, x ≠ .ow ds) → (∀ u ∈ L, Gp B u) → 0 < K → Gp K f → K + (B + 1) * L.length ≤ 6900 →
    ∃ y, (∀ ds, y ≠ .ow ds) ∧ sFor (putN [0] 4) (sSet [0] 3 (eCallP (aCons (eVar 3) (aCons (eVar 4) aNil)) id f__law_plus)) (L.map Np) [s0, s1, s2, .pu (Np f), x, s5, s6, s7] = .nx [s0, s1, s2, .pu (Np (L.foldl plusP f)), y, s5, s6, s7]
  | [], f, x, _, hx, _, _, _, _ => ⟨x, hx, rfl⟩
  | u :: L, f, x, K, _, hL, hK, hf, hs => by
    rw [List.length_cons, Nat.mul_succ] at hs
    have hu := hL u List.mem_cons_self
    have hp : Gp (K + (B + 1)) (plusP f u) := plus_gp hf hu
    obtain ⟨y, hy0, hy⟩ := due_sum h0 s0 s1 s2 s5 s6 s7 L (plusP f u) (.pu (Np u)) (K + (B + 1)) (fun _ z => by cases z) (fun v hv => hL v (List.mem_cons_of_mem _ hv)) (by omega) hp (by omega)
    refine ⟨y, hy0, ?_⟩
    obtain ⟨m1, m2, m3, hq, hl⟩ := plus_runs hf hu hK h0 (by omega)
    apply sFor_cons (st1 := [s0, s1, s2, .pu (Np f), .pu (Np u), s5, s6, s7]) (s := [s0, s1, s2, .pu (Np (plusP f u)), .pu (Np u), s5, s6, s7])
    · exact rfl
    · apply sSet_r
      · apply eCallP_r (ds := [Np f, Np u])
        · walk_at "ev"
        · exact run_lplus f.1 f.2 u.1 u.2 hq m1 m2 m3 hl
      · walk_at "ev"
    · exact hy
theorem less_np {B : Nat} (h0 : 0 < B) (hB : B ≤ 7000) {u v : Int × Int} (hu : Gp B u) (hv : Gp B v) : f__law_less [.pu (Np u), .pu (Np v)] = .ok (.bl (decide (lt u v)), false) [.pu (Np u), .pu (Np v)] := by
  have := run_law_less u.1 u.2 v.1 v.2 (mOk_of hu.2.1 hv.2.2 h0 h0 (by omega)) (mOk_of hv.2.1 hu.2.2 h0 h0 (by omega))
  have e : decide (u.1 * v.2 - v.1 * u.2 < 0) = decide (lt u v) := by unfold lt; exact decide_eq_decide.mpr (by omega)
  rw [e] at this
  exact this
abbrev outT : EvT := tOr' (tOf (eCallP (aCons (eVar 4) (aCons (eVar 6) aNil)) id f__law_less)) (tOf (eCallP (aCons (eVar 7) (aCons (eVar 4) aNil)) id f__law_less))
theorem out_loop {B : Nat} (h0 : 0 < B) (hB : B ≤ 7000) (s0 s1 s2 s3 s5 : Sl) {lo hi : Int × Int} (hlo : Gp B lo) (hhi : Gp B hi) : ∀ (L : List (Int × Int)) (x : Sl), (∀ u ∈ L, Gp B u ∧ ¬ lt u lo ∧ ¬ lt hi u) →
    ∃ y, cLoop [4] (putN [] 4) outT (eVar 4) (L.map Np) [s0, s1, s2, s3, x, s5, .pu (Np lo), .pu (Np hi)] = .ok [] [s0, s1, s2, s3, y, s5, .pu (Np lo), .pu (Np hi)]
  | [], x, _ => ⟨x, rfl⟩
  | u :: L, x, hL => by
    obtain ⟨hu, n1, n2⟩ := hL u List.mem_cons_self
    obtain ⟨y, hy⟩ := out_loop h0 hB s0 s1 s2 s3 s5 hlo hhi L (.pu (Np u)) fun v hv => hL v (List.mem_cons_of_mem _ hv)
    refine ⟨y, ?_⟩
    have r1 := less_np h0 hB hu hlo
    have r2 := less_np h0 hB hhi hu
    rw [decide_eq_false n1] at r1
    rw [decide_eq_false n2] at r2
    apply cLoop_f (st1 := [s0, s1, s2, s3, .pu (Np u), s5, .pu (Np lo), .pu (Np hi)]) (st2 := [s0, s1, s2, s3, .pu (Np u), s5, .pu (Np lo), .pu (Np hi)])
    · exact rfl
    · apply tOr_r (c := false)
      · apply tOf_r
        · apply eCallP_r (ds := [Np u, Np lo])
          · walk_at "ev"
          · exact r1
        · rfl
      · rw [if_neg (by decide)]
        apply tOf_r
        · apply eCallP_r (ds := [Np hi, Np u])
          · walk_at "ev"
          · exact r2
        · rfl
    · exact rfl
    · exact hy
/-- the part for rows that are not empty -/
abbrev rowIf : EvS := (sSeq (sUnp [0] [6, 7] (eTup (aCons (eCallP (aCons (eVar 5) (aNil)) id f_least) (aCons (eCallP (aCons (eVar 5) (aNil)) id f_greatest) (aNil))))) (sSeq (sIf (tOr' (tOf (eBin (fIn false) (eVar 6) (eVar 1))) (tOr' (tOf (eBin (fIn false) (eVar 7) (eVar 1))) (tNot' (tOf (eCallP (aCons (eLst (aCons (eCallK aNil (aCons (eVar 5) (aNil)) 1 0 pm_least_0_numbers f_least) (aCons (eCallK aNil (aCons (eVar 5) (aNil)) 1 0 pm_greatest_0_numbers f_greatest) (aNil)))) (aCons (eLst (aCons (eVar 6) (aCons (eVar 7) (aNil)))) (aNil))) id (f__law_same 8)))))) (sRet (eC (.bl false))) (sSkip)) (sSeq (sIf (tOf (eBin (fEq false) (eLc [4] (iSeq (eVar 1)) (putN [] 4) (tOr' (tOf (eCallP (aCons (eVar 4) (aCons (eVar 6) (aNil))) id f__law_less)) (tOf (eCallP (aCons (eVar 7) (aCons (eVar 4) (aNil))) id f__law_less))) (eVar 4)) (eLst (aNil)))) (sRet (eC (.bl false))) (sSkip)) (sIf (tNot' (tOf (eCallP (aCons (eLst (aCons (eVar 6) (aCons (eVar 7) (aNil)))) (aCons (eLst (aCons (eIxV 1 (eIndexV 1 (eVar 6))) (aCons (eIxV 1 (eIndexV 1 (eVar 7))) (aNil)))) (aNil))) id (f__law_same 8)))) (sRet (eC (.bl false))) (sSkip)))))
theorem eIndexV_r {i j : Nat} {e : EvE} {st st1 : List Sl} {ds0 : List D} {d : D} {z : R1} (h0 : slD st[i]? = some (.lst ds0)) (he : e st = .ok z st1) (h1 : slD st1[i]? = some d) (hj : idxAt d z.1 = some j) : eIndexV i e st = .ok (.int (j : Int), false) st1 := by
  unfold eIndexV; rw [h0]; show (e st).bind _ = _; rw [he]
  show (match slD st1[i]? with | none => (O.no : O R1) | some d => match idxAt d z.1 with | some j => O.ok (D.int (j : Int), false) st1 | none => .no) = _
  rw [h1]; show (match idxAt d z.1 with | some j => O.ok (D.int (j : Int), false) st1 | none => .no) = _; rw [hj]
theorem pair_pt (u v : Int × Int) : Pt 7 (.lst [Np u, Np v]) := pt_l (by simp) fun d hd => by
  simp at hd
  rcases hd with rfl | rfl <;> exact pt_n 5 _ _
theorem run_rowIf {B : Nat} (h0 : 0 < B) (hB : B ≤ 7000) (s0 s2 s3 x : Sl) (hx : ∀ ds, x ≠ .ow ds) (f : Int × Int) (L : List (Int × Int)) (hL : ∀ u ∈ f :: L, Gp B u) (hlen : (f :: L).length ≤ 1000) (g : D) (hg : Row g (f :: L)) :
    rowIf [s0, .pu (.lst ((f :: L).map Np)), s2, s3, x, .pu g, .un, .un] = .nx [s0, .pu (.lst ((f :: L).map Np)), s2, s3, x, .pu g, .pu (Np (leastF f (f :: L))), .pu (Np (greatF f (f :: L)))] := by
  have hf := hL f List.mem_cons_self
  have hpos : ∀ u ∈ f :: L, 0 < u.2 := fun u hu => (hL u hu).1.1
  obtain ⟨l1, _, l3, _⟩ := least_spec (f :: L) f hf.1.1 hpos
  obtain ⟨g1, _, g3⟩ := great_spec (f :: L) f hf.1.1 hpos
  have ml : leastF f (f :: L) ∈ f :: L := by rcases l1 with e | e; · rw [e]; exact List.mem_cons_self
                                             · exact e
  have mg : greatF f (f :: L) ∈ f :: L := by rcases g1 with e | e; · rw [e]; exact List.mem_cons_self
                                             · exact e
  have rl := run_least hg h0 hB hL
  have rg := run_greatest hg h0 hB hL
  generalize leastF f (f :: L) = lo at *
  generalize greatF f (f :: L) = hi at *
  have hlo := hL lo ml
  have hhi := hL hi mg
  obtain ⟨y, hy⟩ := out_loop h0 hB s0 (.pu (.lst ((f :: L).map Np))) s2 s3 (.pu g) hlo hhi (f :: L) x fun u hu => ⟨hL u hu, l3 u hu, g3 u hu⟩
  have comp : eLc [4] (iSeq (eVar 1)) (putN [] 4) outT (eVar 4) [s0, .pu (.lst ((f :: L).map Np)), s2, s3, x, .pu g, .pu (Np lo), .pu (Np hi)] = .ok (.lst [], true) [s0, .pu (.lst ((f :: L).map Np)), s2, s3, x, .pu g, .pu (Np lo), .pu (Np hi)] := by
    apply eLc_r (st1 := [s0, .pu (.lst ((f :: L).map Np)), s2, s3, x, .pu g, .pu (Np lo), .pu (Np hi)]) (st2 := [s0, .pu (.lst ((f :: L).map Np)), s2, s3, y, .pu g, .pu (Np lo), .pu (Np hi)]) (ds := (f :: L).map Np)
    · exact iSeq_l (eVar_r rfl)
    · refine ⟨?_, by rw [List.length_map]; omega⟩
      cases x with
      | ow ds => exact absurd rfl (hx ds)
      | un => rfl
      | pu d => rfl
    · exact hy
    · exact rfl
    · exact rfl
  obtain ⟨j1, i1, i2⟩ := idx_of ml
  obtain ⟨j2, i3, i4⟩ := idx_of mg
  apply sSeq_r (st1 := [s0, .pu (.lst ((f :: L).map Np)), s2, s3, x, .pu g, .pu (Np lo), .pu (Np hi)])
  · apply sUnp_r
    · apply eTup_r (ds := [Np lo, Np hi])
      · apply aCons_r
        · apply eCallP_r (ds := [g])
          · walk_at "ev"
          · exact rl
        · apply aCons_r
          · apply eCallP_r (ds := [g])
            · walk_at "ev"
            · exact rg
          · exact aNil_r
          · exact rfl
        · exact rfl
      · simp
      · exact rfl
    · exact rfl
  · apply sSeq_r (st1 := [s0, .pu (.lst ((f :: L).map Np)), s2, s3, x, .pu g, .pu (Np lo), .pu (Np hi)])
    · apply sIf_r (c := false) (st1 := [s0, .pu (.lst ((f :: L).map Np)), s2, s3, x, .pu g, .pu (Np lo), .pu (Np hi)])
      · apply tOr_r (c := false) (st1 := [s0, .pu (.lst ((f :: L).map Np)), s2, s3, x, .pu g, .pu (Np lo), .pu (Np hi)])
        · apply tOf_r
          · apply eBin_r
            · apply eVar_r; exact rfl
            · apply eVar_r; exact rfl
            · exact not_in ml
          · rfl
        · rw [if_neg (by decide)]
          apply tOr_r (c := false) (st1 := [s0, .pu (.lst ((f :: L).map Np)), s2, s3, x, .pu g, .pu (Np lo), .pu (Np hi)])
          · apply tOf_r
            · apply eBin_r
              · apply eVar_r; exact rfl
              · apply eVar_r; exact rfl
              · exact not_in mg
            · rfl
          · rw [if_neg (by decide)]
            apply same_not (d := .lst [Np lo, Np hi]) (st1 := [s0, .pu (.lst ((f :: L).map Np)), s2, s3, x, .pu g, .pu (Np lo), .pu (Np hi)])
            · apply eLst_r (ds := [Np lo, Np hi])
              · apply aCons_r
                · apply eCallK_r (ds := []) (es := [g])
                  · exact aNil_r
                  · walk_at "ev"
                  · simp
                  · exact rl
                · apply aCons_r
                  · apply eCallK_r (ds := []) (es := [g])
                    · exact aNil_r
                    · walk_at "ev"
                    · simp
                    · exact rg
                  · exact aNil_r
                  · exact rfl
                · exact rfl
              · simp
              · exact rfl
            · apply eLst_r (ds := [Np lo, Np hi])
              · walk_at "ev"
              · simp
              · exact rfl
            · exact rfl
            · exact rfl
            · exact pair_pt lo hi
      · exact rfl
    · apply sSeq_r (st1 := [s0, .pu (.lst ((f :: L).map Np)), s2, s3, x, .pu g, .pu (Np lo), .pu (Np hi)])
      · apply sIf_r (c := false) (st1 := [s0, .pu (.lst ((f :: L).map Np)), s2, s3, x, .pu g, .pu (Np lo), .pu (Np hi)])
        · apply tOf_r
          · apply eBin_r
            · exact comp
            · apply eLst_r
              · exact aNil_r
              · simp
              · exact rfl
            · exact rfl
          · rfl
        · exact rfl
      · apply sIf_r (c := false) (st1 := [s0, .pu (.lst ((f :: L).map Np)), s2, s3, x, .pu g, .pu (Np lo), .pu (Np hi)])
        · apply same_not (d := .lst [Np lo, Np hi]) (st1 := [s0, .pu (.lst ((f :: L).map Np)), s2, s3, x, .pu g, .pu (Np lo), .pu (Np hi)])
          · apply eLst_r (ds := [Np lo, Np hi])
            · walk_at "ev"
            · simp
            · exact rfl
          · apply eLst_r (ds := [Np lo, Np hi])
            · apply aCons_r
              · apply eIxV_r
                · exact rfl
                · apply eIndexV_r
                  · exact rfl
                  · apply eVar_r; exact rfl
                  · exact rfl
                  · exact i1
                · exact rfl
                · exact i2
              · apply aCons_r
                · apply eIxV_r
                  · exact rfl
                  · apply eIndexV_r
                    · exact rfl
                    · apply eVar_r; exact rfl
                    · exact rfl
                    · exact i3
                  · exact rfl
                  · exact i4
                · exact aNil_r
                · exact rfl
              · exact rfl
            · simp
            · exact rfl
          · exact rfl
          · exact rfl
          · exact pair_pt lo hi
        · exact rfl
end G
end

end

section
set_option Elab.async false
set_option linter.all false
set_option maxRecDepth 100000
set_option maxHeartbeats 4000000
set_option exponentiation.threshold 10000
noncomputable section
namespace G
open PySem L2 TX
theorem run_row_right {l : List D} (hl : Dk l) {B : Nat} (h0 : 0 < B) (hB : B ≤ 7000) (L : List (Int × Int)) (hL : ∀ u ∈ L, Gp B u) (hlen : L.length ≤ 1000) (hs : 1 + (B + 1) * L.length ≤ 6900) (T : Str) (hr : fRepr (.lst (L.map Np)) = some (.str T, false)) (hT : (PyData.str T).canLay0 = true) :
    ∃ l', f__law_row_right [.ow l, .pu (.lst (L.map Np))] = .ok (.bl true, false) [.ow l', .pu (.lst (L.map Np))] ∧ Dk l' := by
  obtain ⟨i, l1, e1, i0, i1, d1⟩ := run_take hl 2 (by decide) (by decide +kernel)
  refine ⟨l1, ?_, d1⟩
  obtain ⟨g, hg, eg⟩ := ix2 (a := .lst (L.map Np)) (b := .tup (L.map Np)) i0 i1
  have row : Row g L := hg
  obtain ⟨y, hy0, hy⟩ := due_sum h0 (.ow l) (.pu (.lst (L.map Np))) (.pu (.str T)) .un .un .un L (0, 1) .un 1 (fun _ z => by cases z) hL (by decide) zero_gp hs
  have rt := run_total row h0 hL hs
  generalize L.foldl plusP (0, 1) = s at *
  obtain ⟨z6, z7, hif⟩ : ∃ z6 z7 : Sl, sIf (tOf (eBinV (fEq false) 1 (eLst aNil))) rowIf sSkip [.ow l1, .pu (.lst (L.map Np)), .pu (.str T), .pu (Np s), y, .pu g, .un, .un] = .nx [.ow l1, .pu (.lst (L.map Np)), .pu (.str T), .pu (Np s), y, .pu g, z6, z7] := by
    cases L with
    | nil =>
      refine ⟨.un, .un, ?_⟩
      apply sIf_r (c := false) (st1 := [.ow l1, .pu (.lst []), .pu (.str T), .pu (Np s), y, .pu g, .un, .un])
      · apply tOf_r
        · apply eBinV_r
          · exact rfl
          · apply eLst_r
            · exact aNil_r
            · simp
            · exact rfl
          · exact rfl
          · exact ne_nil []
        · rfl
      · exact rfl
    | cons f L =>
      refine ⟨.pu (Np (leastF f (f :: L))), .pu (Np (greatF f (f :: L))), ?_⟩
      apply sIf_r (c := true) (st1 := [.ow l1, .pu (.lst ((f :: L).map Np)), .pu (.str T), .pu (Np s), y, .pu g, .un, .un])
      · apply tOf_r
        · apply eBinV_r
          · exact rfl
          · apply eLst_r
            · exact aNil_r
            · simp
            · exact rfl
          · exact rfl
          · exact ne_nil (f :: L)
        · rfl
      · rw [if_pos rfl]
        exact run_rowIf h0 hB _ _ _ y hy0 f L hL hlen g row
  apply def_rt (st := [.ow l, .pu (.lst (L.map Np))]) rfl rfl
  · unfold r__law_row_right
    apply sSeq_r (st1 := [.ow l, .pu (.lst (L.map Np)), .pu (.str T), .pu (Np (0, 1)), .un, .un, .un, .un])
    · apply sPar_r (d := .str T) (e := N 0 1)
      · apply aCons_r
        · apply eV1_r
          · exact rfl
          · exact hr
        · walk_at "ev"
        · exact rfl
      · decide
      · exact rfl
    · apply sSeq_r
      · apply sForI_r
        · exact iSeq_l (eVar_r rfl)
        · exact hy
      · apply sSeq_r (st1 := [.ow l1, .pu (.lst (L.map Np)), .pu (.str T), .pu (Np s), y, .pu g, .un, .un])
        · apply sSet_r
          · apply eBin_r
            · apply eLst_r (ds := [.lst (L.map Np), .tup (L.map Np)])
              · apply aCons_r
                · apply eVar_r; exact rfl
                · apply aCons_r
                  · apply eV1_r (d := .lst (L.map Np))
                    · exact rfl
                    · exact rfl
                  · exact aNil_r
                  · exact rfl
                · exact rfl
              · simp
              · exact rfl
            · apply eCallA_iov (l := l) (l1 := l)
              · exact rfl
              · exact eC_r
              · exact rfl
              · exact e1
            · exact fIx_lst eg
          · apply putS_r
            · simp
            · exact rfl
        · apply sSeq_r (st1 := [.ow l1, .pu (.lst (L.map Np)), .pu (.str T), .pu (Np s), y, .pu g, .un, .un])
          · apply sIf_r (c := false)
            · apply same_not (d := .lst [Np s, Np s]) (st1 := [.ow l1, .pu (.lst (L.map Np)), .pu (.str T), .pu (Np s), y, .pu g, .un, .un]) (st2 := [.ow l1, .pu (.lst (L.map Np)), .pu (.str T), .pu (Np s), y, .pu g, .un, .un])
              · apply eLst_r (ds := [Np s, Np s])
                · apply aCons_r
                  · apply eCallP_r (ds := [g])
                    · walk_at "ev"
                    · exact rt
                  · apply aCons_r
                    · apply eCallK_r (ds := []) (es := [g])
                      · exact aNil_r
                      · walk_at "ev"
                      · simp
                      · exact rt
                    · exact aNil_r
                    · exact rfl
                  · exact rfl
                · simp
                · exact rfl
              · apply eLst_r (ds := [Np s, Np s])
                · walk_at "ev"
                · simp
                · exact rfl
              · exact rfl
              · exact rfl
              · exact pair_pt s s
            · exact rfl
          · have fin : ∀ z6 z7 : Sl, sRet (eBin (fEq true) (eV1 fRepr 1) (eVar 2)) [.ow l1, .pu (.lst (L.map Np)), .pu (.str T), .pu (Np s), y, .pu g, z6, z7] = .rt (.bl true, false) [.ow l1, .pu (.lst (L.map Np)), .pu (.str T), .pu (Np s), y, .pu g, z6, z7] := fun z6 z7 => by
              apply sRet_r
              apply eBin_r
              · apply eV1_r (d := .lst (L.map Np))
                · exact rfl
                · exact hr
              · apply eVar_r; exact rfl
              · exact fEq_str T hT
            apply sSeq_r
            · exact hif
            · exact fin _ _
  · exact rfl
end G
end

end

section
set_option Elab.async false
set_option linter.all false
set_option maxRecDepth 100000
set_option maxHeartbeats 4000000
set_option exponentiation.threshold 10000
noncomputable section
namespace G
open PySem L2 TX
abbrev rowE : EvE := eBin fIx (eLst (aCons (eCallA (.io 0 :: []) f__law_small) (aCons (eCallA (.io 0 :: []) f__law_own) (aNil)))) (eBin fDiv (eCallA (.io 0 :: .v (eC (.int 5)) :: []) f__law_take) (eC (.int 4)))
theorem gd_np {B : Nat} {d : D} (h : Gd B d) : ∃ u, d = Np u ∧ Gp B u := by
  obtain ⟨a, b, e, h1, h2, h3⟩ := h
  exact ⟨(a, b), e, h1, h2, h3⟩
theorem run_rowE {l : List D} (hl : Dk l) (r : List Sl) : ∃ (u : Int × Int) (l' : List D), rowE (.ow l :: r) = .ok (Np u, false) (.ow l' :: r) ∧ Gp 270 u ∧ Dk l' := by
  obtain ⟨a, l1, e1, g1, d1⟩ := run_small hl
  obtain ⟨b, l2, e2, g2, d2⟩ := run_own d1
  obtain ⟨w, l3, e3, w0, w1, d3⟩ := run_take d2 5 (by decide) (by decide +kernel)
  have hw : w.fdiv 4 = w / 4 := Int.fdiv_eq_ediv_of_nonneg _ (by decide)
  obtain ⟨z, hz, ez⟩ := ix2 (a := a) (b := b) (i := w.fdiv 4) (by rw [hw]; omega) (by rw [hw]; omega)
  have hg : Gd 270 z := by
    rcases hz with rfl | rfl
    · exact g1.mono (by decide)
    · exact g2
  obtain ⟨u, rfl, hu⟩ := gd_np hg
  refine ⟨u, l3, ?_, hu, d3⟩
  apply eBin_r
  · apply eLst_r (ds := [a, b])
    · apply aCons_r
      · apply eCallA_io (l := l)
        · exact rfl
        · exact e1
      · apply aCons_r
        · apply eCallA_io (l := l1)
          · exact rfl
          · exact e2
        · exact aNil_r
        · exact rfl
      · exact rfl
    · simp
    · exact rfl
  · apply eBin_r
    · apply eCallA_iov (l := l2) (l1 := l2)
      · exact rfl
      · exact eC_r
      · exact rfl
      · exact e3
    · exact eC_r
    · exact fDiv_r (by decide +kernel)
  · exact fIx_lst ez
theorem row_loop (s1 s2 s3 s4 s5 s6 : Sl) : ∀ (ks : List D) {l : List D} (x : Sl), Dk l → (∀ ds, x ≠ .ow ds) → ∃ (L : List (Int × Int)) (l' : List D) (y : Sl), cLoop [7] (putN [] 7) tTrue rowE ks [.ow l, s1, s2, s3, s4, s5, s6, x] = .ok (L.map Np) [.ow l', s1, s2, s3, s4, s5, s6, y] ∧ Dk l' ∧ (∀ u ∈ L, Gp 270 u) ∧ L.length = ks.length
  | [], l, x, hl, _ => ⟨[], l, x, rfl, hl, fun _ h => (by cases h), rfl⟩
  | k :: ks, l, x, hl, hx => by
    obtain ⟨u, l1, e1, g1, d1⟩ := run_rowE hl [s1, s2, s3, s4, s5, s6, .pu k]
    obtain ⟨L, l', y, hy, h1, h2, h3⟩ := row_loop s1 s2 s3 s4 s5 s6 ks (.pu k) d1 fun _ z => by cases z
    refine ⟨u :: L, l', y, ?_, h1, fun v hv => ?_, by rw [List.length_cons, List.length_cons, h3]⟩
    · apply cLoop_t (z := (Np u, false)) (st1 := [.ow l, s1, s2, s3, s4, s5, s6, .pu k]) (st2 := [.ow l, s1, s2, s3, s4, s5, s6, .pu k]) (st3 := [.ow l1, s1, s2, s3, s4, s5, s6, .pu k])
      · exact rfl
      · exact rfl
      · exact e1
      · exact rfl
      · exact hy
    · rcases List.mem_cons.mp hv with rfl | hv
      · exact g1
      · exact h2 v hv
/-- v, drawn anew or near u -/
theorem run_v {l : List D} (hl : Dk l) (s1 s4 s5 s6 s7 : Sl) {u v : Int × Int} (hu : Gp 270 u) (hv : Gp 270 v) : ∃ (v' : Int × Int) (l' : List D), sIf (tOf (eBin (fEq true) (eCallA (.io 0 :: .v (eC (.int 4)) :: []) f__law_take) (eC (.int 0)))) (sSet [0] 3 (eCallP (aCons (eVar 2) (aCons (eCallP (aCons (eBin fSub (eCallA (.io 0 :: .v (eC (.int 3)) :: []) f__law_take) (eC (.int 1))) (aCons (eBin fMul (eIxV 2 (eC (.int 1))) (eBin fAdd (eC (.int 1)) (eCallA (.io 0 :: .v (eC (.int 3)) :: []) f__law_take))) (aNil))) id f__law_pair) (aNil))) id f__law_plus)) (sSkip)
    [.ow l, s1, .pu (Np u), .pu (Np v), s4, s5, s6, s7] = .nx [.ow l', s1, .pu (Np u), .pu (Np v'), s4, s5, s6, s7] ∧ Gp 543 v' ∧ Dk l' := by
  obtain ⟨w, l1, e1, w0, w1, d1⟩ := run_take hl 4 (by decide) (by decide +kernel)
  have test : tOf (eBin (fEq true) (eCallA (.io 0 :: .v (eC (.int 4)) :: []) f__law_take) (eC (.int 0))) [.ow l, s1, .pu (Np u), .pu (Np v), s4, s5, s6, s7] = .ok (decide (w = 0)) [.ow l1, s1, .pu (Np u), .pu (Np v), s4, s5, s6, s7] := by
    apply tOf_r
    · apply eBin_r
      · apply eCallA_iov (l := l) (l1 := l)
        · exact rfl
        · exact eC_r
        · exact rfl
        · exact e1
      · exact eC_r
      · exact fEqI_r
    · rfl
  by_cases hw : w = 0
  · obtain ⟨r, l2, e2, r0, r1, d2⟩ := run_take d1 3 (by decide) (by decide +kernel)
    obtain ⟨s, l3, e3, t0, t1, d3⟩ := run_take d2 3 (by decide) (by decide +kernel)
    have hq : u.2 * (1 + s) ≠ 0 := Int.mul_ne_zero (by have := hu.1.1; omega) (by omega)
    have hs : (1 + s).natAbs < 2 ^ 2 := by omega
    have hq2 : (u.2 * (1 + s)).natAbs < 2 ^ 272 := mul_step hu.2.2 hs
    have m1 : mOk u.2 (1 + s) := mOk_of hu.2.2 hs (by decide) (by decide) (by decide)
    obtain ⟨t, et, ht⟩ := gd_np (nm_gd (p := r - 1) hq (Nat.lt_of_lt_of_le (show (r - 1).natAbs < 4 by omega) (Nat.pow_le_pow_right (show 0 < 2 by decide) (show 2 ≤ 272 by decide))) hq2)
    obtain ⟨k1, k2, k3, k4, k5⟩ := plus_runs hu ht (by decide) (by decide) (by decide)
    refine ⟨plusP u t, l3, ?_, plus_gp hu ht, d3⟩
    apply sIf_r test
    rw [if_pos (decide_eq_true hw)]
    apply sSet_r
    · apply eCallP_r (ds := [Np u, Np t])
      · apply aCons_r
        · apply eVar_r; exact rfl
        · apply aCons_r
          · apply eCallP_r (ds := [.int (r - 1), .int (u.2 * (1 + s))])
            · apply aCons_r
              · apply eBin_r
                · apply eCallA_iov (l := l1) (l1 := l1)
                  · exact rfl
                  · exact eC_r
                  · exact rfl
                  · exact e2
                · exact eC_r
                · exact rfl
              · apply aCons_r
                · apply eBin_r
                  · walk_at "ev"
                  · apply eBin_r
                    · exact eC_r
                    · apply eCallA_iov (l := l2) (l1 := l2)
                      · exact rfl
                      · exact eC_r
                      · exact rfl
                      · exact e3
                    · exact rfl
                  · exact fMul_r m1
                · exact aNil_r
                · exact rfl
              · exact rfl
            · exact run_pair hq (log_lt hq2 (by decide) (by decide))
          · exact aNil_r
          · exact et
        · exact rfl
      · exact run_lplus u.1 u.2 t.1 t.2 k4 k1 k2 k3 k5
    · apply putS_r
      · simp
      · exact rfl
  · have big : (2 : Nat) ^ 270 ≤ 2 ^ 543 := Nat.pow_le_pow_right (by decide) (by decide)
    refine ⟨v, l1, ?_, ⟨hv.1, by have := hv.2.1; omega, by have := hv.2.2; omega⟩, d1⟩
    apply sIf_r test
    rw [if_neg (by simp [hw])]
    exact rfl
end G
end

end

section
set_option Elab.async false
set_option linter.all false
set_option maxRecDepth 100000
set_option maxHeartbeats 8000000
set_option exponentiation.threshold 10000
noncomputable section
namespace G
open PySem L2 TX
/-- the texts of rows: told as a premise here, proved apart -/
def Shown : Prop := ∀ L : List (Int × Int), (∀ u ∈ L, Gp 270 u) → L.length ≤ 13 → ∃ T : Str, fRepr (.lst (L.map Np)) = some (.str T, false) ∧ (PyData.str T).canLay0 = true
theorem gp_gd {B : Nat} {u : Int × Int} (h : Gp B u) : Gd B (Np u) := ⟨u.1, u.2, rfl, h⟩
/-- is_number, three ways -/
theorem step_is {c u : Int × Int} (hu : Nb u.1 u.2) (l : List D) (s3 s4 s5 s6 s7 : Sl) : sIf (tNot' (tOf (eCallP (aCons (eLst (aCons (eCallP (aCons (eVar 1) (aNil)) id f_is_number) (aCons (eCallK aNil (aCons (eVar 1) (aNil)) 1 0 pm_is_number_0_told f_is_number) (aCons (eCallP (aCons (eVar 2) (aNil)) id f_is_number) (aNil))))) (aCons (eBin fAdd (eBin fMul (eLst (aCons (eCallP (aCons (eVar 1) (aNil)) id f__law_is) (aNil))) (eC (.int 2))) (eLst (aCons (eC (.bl true)) (aNil)))) (aNil))) id (f__law_same 8)))) (sRet (eC (.bl false))) (sSkip) [.ow l, .pu (Np c), .pu (Np u), s3, s4, s5, s6, s7] = .nx [.ow l, .pu (Np c), .pu (Np u), s3, s4, s5, s6, s7] := by
  have r1 := run_isnum c.1 c.2
  have r2 := run_isnum u.1 u.2
  rw [decide_eq_true hu] at r2
  have r3 := run_lawis c.1 c.2
  apply sIf_r (c := false) (st1 := [.ow l, .pu (Np c), .pu (Np u), s3, s4, s5, s6, s7])
  · apply same_not (d := .lst [.bl (decide (Nb c.1 c.2)), .bl (decide (Nb c.1 c.2)), .bl true]) (st1 := [.ow l, .pu (Np c), .pu (Np u), s3, s4, s5, s6, s7])
    · apply eLst_r
      · apply aCons_r
        · apply eCallP_r (ds := [Np c])
          · walk_at "ev"
          · exact r1
        · apply aCons_r
          · apply eCallK_r (ds := []) (es := [Np c])
            · exact aNil_r
            · walk_at "ev"
            · simp
            · exact r1
          · apply aCons_r
            · apply eCallP_r (ds := [Np u])
              · walk_at "ev"
              · exact r2
            · exact aNil_r
            · exact rfl
          · exact rfl
        · exact rfl
      · simp
      · exact rfl
    · apply eBin_r
      · exact rep2 (eCallP_r (ds := [Np c]) (by walk_at "ev") r3)
      · walk_at "ev"
      · exact rfl
    · exact rfl
    · exact rfl
    · exact pt_l (by simp) fun d hd => by
        simp at hd
        rcases hd with rfl | rfl <;> exact .bl _ _
  · exact rfl
/-- number, by place and by name -/
theorem step_num {c : Int × Int} (hc : c.2.natAbs < 2 ^ 276) (l : List D) (s2 s3 s5 s6 s7 : Sl) : ∃ s4, sIf (tOf (eBin (fEq false) (eIxV 1 (eC (.int 1))) (eC (.int 0)))) (sSeq (sSet [0] 4 (eCallP (aCons (eIxV 1 (eC (.int 0))) (aCons (eIxV 1 (eC (.int 1))) (aNil))) id f__law_pair)) (sIf (tNot' (tOf (eCallP (aCons (eLst (aCons (eCallP (aCons (eIxV 1 (eC (.int 0))) (aCons (eIxV 1 (eC (.int 1))) (aNil))) id f_number) (aCons (eCallK aNil (aCons (eIxV 1 (eC (.int 1))) (aCons (eIxV 1 (eC (.int 0))) (aNil))) 2 0 pm_number_0_bottom_top f_number) (aNil)))) (aCons (eLst (aCons (eVar 4) (aCons (eVar 4) (aNil)))) (aNil))) id (f__law_same 8)))) (sRet (eC (.bl false))) (sSkip))) (sSkip) [.ow l, .pu (Np c), s2, s3, .un, s5, s6, s7] = .nx [.ow l, .pu (Np c), s2, s3, s4, s5, s6, s7] := by
  have test : tOf (eBin (fEq false) (eIxV 1 (eC (.int 1))) (eC (.int 0))) [.ow l, .pu (Np c), s2, s3, .un, s5, s6, s7] = .ok (!decide (c.2 = 0)) [.ow l, .pu (Np c), s2, s3, .un, s5, s6, s7] := by
    apply tOf_r
    · walk_at "ev"
    · rfl
  by_cases h : c.2 = 0
  · refine ⟨.un, ?_⟩
    apply sIf_r test
    rw [decide_eq_true h]
    exact rfl
  · have hl := log_lt hc (by decide) (by decide)
    refine ⟨.pu (nm c.1 c.2), ?_⟩
    apply sIf_r test
    rw [decide_eq_false h, if_pos (show (!false) = true from rfl)]
    apply sSeq_r (st1 := [.ow l, .pu (Np c), s2, s3, .pu (nm c.1 c.2), s5, s6, s7])
    · apply sSet_r
      · apply eCallP_r (ds := [.int c.1, .int c.2])
        · walk_at "ev"
        · exact run_pair h hl
      · apply putS_r
        · simp
        · exact rfl
    · apply sIf_r (c := false) (st1 := [.ow l, .pu (Np c), s2, s3, .pu (nm c.1 c.2), s5, s6, s7])
      · apply same_not (d := .lst [nm c.1 c.2, nm c.1 c.2]) (st1 := [.ow l, .pu (Np c), s2, s3, .pu (nm c.1 c.2), s5, s6, s7])
        · apply eLst_r
          · apply aCons_r
            · apply eCallP_r (ds := [.int c.1, .int c.2])
              · walk_at "ev"
              · exact run_num h hl
            · apply aCons_r
              · apply eCallK_r (ds := []) (es := [.int c.2, .int c.1])
                · exact aNil_r
                · walk_at "ev"
                · simp
                · exact run_num h hl
              · exact aNil_r
              · exact rfl
            · exact rfl
          · simp
          · exact rfl
        · apply eLst_r
          · walk_at "ev"
          · simp
          · exact rfl
        · exact rfl
        · exact rfl
        · exact pair_pt (nmP c.1 c.2) (nmP c.1 c.2)
      · exact rfl
theorem lay_zero : (PyData.str "zero").canLay0 = true := by first | rfl | decide +kernel
/-- division by 0 -/
theorem step_div (cl : Nat → Addr) {u : Int × Int} (hu : Nb u.1 u.2) (b : Bool) (l : List D) (s1 s3 s4 s6 s7 : Sl) : sIf (tNot' (tOf (eCallP (aCons (eLst (aCons (eCallP (aCons (eC (.int 0)) (aCons (eVar 2) (aCons (eVar 5) (aNil)))) id (f__law_divided cl)) (aCons (eCallP (aCons (eC (.int 1)) (aCons (eVar 2) (aCons (eVar 5) (aNil)))) id (f__law_divided cl)) (aNil)))) (aCons (eLst (aCons (eLst (aCons (eC (.str "zero")) (aCons (eIxV 2 (eC (.int 0))) (aNil)))) (aCons (eLst (aCons (eC (.str "zero")) (aCons (eVar 2) (aNil)))) (aNil)))) (aNil))) id (f__law_same 8)))) (sRet (eC (.bl false))) (sSkip) [.ow l, s1, .pu (Np u), s3, s4, .pu (.bl b), s6, s7] = .nx [.ow l, s1, .pu (Np u), s3, s4, .pu (.bl b), s6, s7] := by
  obtain ⟨r1, r2⟩ := run_divided cl hu b
  apply sIf_r (c := false) (st1 := [.ow l, s1, .pu (Np u), s3, s4, .pu (.bl b), s6, s7])
  · apply same_not (d := .lst [.lst [.str "zero", .int u.1], .lst [.str "zero", Np u]]) (st1 := [.ow l, s1, .pu (Np u), s3, s4, .pu (.bl b), s6, s7])
    · apply eLst_r
      · apply aCons_r
        · apply eCallP_r (ds := [.int 0, Np u, .bl b])
          · walk_at "ev"
          · exact r1
        · apply aCons_r
          · apply eCallP_r (ds := [.int 1, Np u, .bl b])
            · walk_at "ev"
            · exact r2
          · exact aNil_r
          · exact rfl
        · exact rfl
      · simp
      · exact rfl
    · apply eLst_r
      · walk_at "ev"
      · simp
      · exact rfl
    · exact rfl
    · exact rfl
    · refine pt_l (by simp) fun d hd => ?_
      simp at hd
      rcases hd with rfl | rfl
      · refine pt_l (by simp) fun d hd => ?_
        simp at hd
        rcases hd with rfl | rfl
        · exact .str _ _ lay_zero
        · exact .int _ _
      · refine pt_l (by simp) fun d hd => ?_
        simp at hd
        rcases hd with rfl | rfl
        · exact .str _ _ lay_zero
        · exact pt_n 4 _ _
  · exact rfl
end G
end

end

section
set_option Elab.async false
set_option linter.all false
set_option maxRecDepth 100000
set_option maxHeartbeats 8000000
set_option exponentiation.threshold 10000
noncomputable section
namespace G
open PySem L2 TX
theorem gp_mono {B C : Nat} {u : Int × Int} (h : Gp B u) (hc : B ≤ C) : Gp C u := by
  have := Nat.pow_le_pow_right (show 0 < 2 by decide) hc
  exact ⟨h.1, by have := h.2.1; omega, by have := h.2.2; omega⟩
/-- powers -/
theorem step_pow {l : List D} (hl : Dk l) {v : Int × Int} (hv : Gp 543 v) (s1 s2 s4 s5 s6 s7 : Sl) : ∃ l', Dk l' ∧ sIf (tOr' (tNot' (tOf (eCallP (aCons (eCallA (.io 0 :: []) f__law_small) (aCons (eCallA (.io 0 :: .v (eC (.int 41)) :: []) f__law_take) (aNil))) id f__law_power_right))) (tNot' (tOf (eCallP (aCons (eVar 3) (aCons (eCallA (.io 0 :: .v (eC (.int 4)) :: []) f__law_take) (aNil))) id f__law_power_right)))) (sRet (eC (.bl false))) (sSkip) [.ow l, s1, s2, .pu (Np v), s4, s5, s6, s7] = .nx [.ow l', s1, s2, .pu (Np v), s4, s5, s6, s7] := by
  obtain ⟨a, l1, e1, g1, d1⟩ := run_small hl
  obtain ⟨m, l2, e2, m0, m1, d2⟩ := run_take d1 41 (by decide) (by decide +kernel)
  obtain ⟨n, l3, e3, n0, n1, d3⟩ := run_take d2 4 (by decide) (by decide +kernel)
  obtain ⟨m', rfl⟩ : ∃ k : Nat, m = (k : Int) := ⟨m.toNat, by omega⟩
  obtain ⟨n', rfl⟩ : ∃ k : Nat, n = (k : Int) := ⟨n.toNat, by omega⟩
  have r1 := run_power_right g1 (by decide) m' (by omega) (by omega)
  have r2 := run_power_right (gp_gd hv) (by decide) n' (by omega) (by omega)
  refine ⟨l3, d3, ?_⟩
  apply sIf_r (c := false) (st1 := [.ow l3, s1, s2, .pu (Np v), s4, s5, s6, s7])
  · apply tOr_r (c := false) (st1 := [.ow l2, s1, s2, .pu (Np v), s4, s5, s6, s7])
    · apply tNot_r (c := true)
      apply tOf_r
      · apply eCallP_r (ds := [a, .int (m' : Int)])
        · apply aCons_r
          · apply eCallA_io (l := l)
            · exact rfl
            · exact e1
          · apply aCons_r
            · apply eCallA_iov (l := l1) (l1 := l1)
              · exact rfl
              · exact eC_r
              · exact rfl
              · exact e2
            · exact aNil_r
            · exact rfl
          · exact rfl
        · exact r1
      · rfl
    · rw [if_neg (by decide)]
      apply tNot_r (c := true)
      apply tOf_r
      · apply eCallP_r (ds := [Np v, .int (n' : Int)])
        · apply aCons_r
          · apply eVar_r; exact rfl
          · apply aCons_r
            · apply eCallA_iov (l := l2) (l1 := l2)
              · exact rfl
              · exact eC_r
              · exact rfl
              · exact e3
            · exact aNil_r
            · exact rfl
          · exact rfl
        · exact r2
      · rfl
  · exact rfl
theorem sApp_r {i : Nat} {e : EvE} {st st1 : List Sl} {ds0 ds : List D} {z : R1} {o : SO} (h0 : st[i]? = some (.ow ds0)) (he : e st = .ok z st1) (h1 : st1[i]? = some (.ow ds)) (hl : ds.length < 100000) (ho : SO.nx (st1.set i (.ow (ds ++ [z.1]))) = o) : sApp i e st = o := by
  subst ho
  unfold sApp; rw [h0]; show (e st).toS _ = _; rw [he]
  show (match st1[i]? with | some (.ow ds) => if ds.length < 100000 then SO.nx (st1.set i (.ow (ds ++ [z.1]))) else .no | _ => SO.no) = _
  rw [h1]; exact if_pos hl
/-- the row may hold one twice -/
theorem step_app {l : List D} (hl : Dk l) (s1 s2 s3 s4 s5 s7 : Sl) (L : List (Int × Int)) (hL : ∀ u ∈ L, Gp 270 u) (hlen : L.length ≤ 12) : ∃ (L' : List (Int × Int)) (l' : List D), Dk l' ∧ (∀ u ∈ L', Gp 270 u) ∧ L'.length ≤ 13 ∧
    sIf (tAnd' (tOf (eBinV (fEq false) 6 (eLst (aNil)))) (tOf (eBin (fEq true) (eCallA (.io 0 :: .v (eC (.int 3)) :: []) f__law_take) (eC (.int 0))))) (sApp 6 (eIxV 6 (eCallA (.io 0 :: .v (eV1 fLen 6) :: []) f__law_take))) (sSkip) [.ow l, s1, s2, s3, s4, s5, .ow (L.map Np), s7] = .nx [.ow l', s1, s2, s3, s4, s5, .ow (L'.map Np), s7] := by
  have t0 : tOf (eBinV (fEq false) 6 (eLst (aNil))) [.ow l, s1, s2, s3, s4, s5, .ow (L.map Np), s7] = .ok (!L.isEmpty) [.ow l, s1, s2, s3, s4, s5, .ow (L.map Np), s7] := by
    apply tOf_r
    · apply eBinV_r
      · exact rfl
      · apply eLst_r
        · exact aNil_r
        · simp
        · exact rfl
      · exact rfl
      · exact ne_nil L
    · rfl
  cases L with
  | nil =>
    refine ⟨[], l, hl, hL, by simp, ?_⟩
    apply sIf_r (c := false) (st1 := [.ow l, s1, s2, s3, s4, s5, .ow [], s7])
    · exact tAnd_r t0 rfl
    · exact rfl
  | cons f L =>
    obtain ⟨w, l1, e1, w0, w1, d1⟩ := run_take hl 3 (by decide) (by decide +kernel)
    have t1 : tOf (eBin (fEq true) (eCallA (.io 0 :: .v (eC (.int 3)) :: []) f__law_take) (eC (.int 0))) [.ow l, s1, s2, s3, s4, s5, .ow ((f :: L).map Np), s7] = .ok (decide (w = 0)) [.ow l1, s1, s2, s3, s4, s5, .ow ((f :: L).map Np), s7] := by
      apply tOf_r
      · apply eBin_r
        · apply eCallA_iov (l := l) (l1 := l)
          · exact rfl
          · exact eC_r
          · exact rfl
          · exact e1
        · exact eC_r
        · exact fEqI_r
      · rfl
    by_cases hw : w = 0
    · have hn : (0 : Int) < ((f :: L).length : Int) := by simp
      obtain ⟨k, l2, e2, k0, k1, d2⟩ := run_take d1 ((f :: L).length : Int) hn (by
        rw [Int.natAbs_natCast]
        exact Nat.lt_of_le_of_lt (log2_mono hlen) (by decide +kernel))
      have hk : k.toNat < (f :: L).length := by omega
      have ek : ((k.toNat : Nat) : Int) = k := by omega
      have ix := atI_nat (ds := (f :: L).map Np) (k := k.toNat) (by rw [List.length_map]; exact hk)
      rw [ek, List.getElem_map] at ix
      refine ⟨(f :: L) ++ [(f :: L)[k.toNat]], l2, d2, fun u hu => ?_, by rw [List.length_append]; simp at hlen ⊢; omega, ?_⟩
      · rcases List.mem_append.mp hu with hu | hu
        · exact hL u hu
        · rw [List.mem_singleton.mp hu]
          exact hL _ (List.getElem_mem hk)
      · apply sIf_r (c := true)
        · apply tAnd_r t0
          exact t1.trans (by rw [decide_eq_true hw])
        · rw [if_pos rfl]
          apply sApp_r
          · exact rfl
          · apply eIxV_r
            · exact rfl
            · apply eCallA_iov (l := l1) (l1 := l1)
              · exact rfl
              · apply eV1_r
                · exact rfl
                · show some (D.int (((f :: L).map Np).length : Int), false) = _
                  rw [List.length_map]
              · exact rfl
              · exact e2
            · exact rfl
            · exact fIx_lst ix
          · exact rfl
          · rw [List.length_map]; omega
          · show SO.nx [.ow l2, s1, s2, s3, s4, s5, .ow (((f :: L).map Np) ++ [Np (f :: L)[k.toNat]]), s7] = _
            rw [List.map_append]
            rfl
    · refine ⟨f :: L, l1, d1, hL, by omega, ?_⟩
      apply sIf_r (c := false)
      · apply tAnd_r t0
        exact t1.trans (by rw [decide_eq_false hw])
      · exact rfl
end G
end

end

section
set_option Elab.async false
set_option linter.all false
set_option maxRecDepth 100000
set_option maxHeartbeats 8000000
set_option exponentiation.threshold 10000
noncomputable section
namespace G
open PySem L2 TX
theorem run_right (cl : Nat → Addr) (sh : Shown) {l : List D} (hl : Dk l) : ∃ l', f__law_right cl [.ow l] = .ok (.bl true, false) [.ow l'] := by
  obtain ⟨c, l1, e1, c1, c2, d1⟩ := run_couple hl
  obtain ⟨u', l2, e2, gu, d2⟩ := run_own d1
  obtain ⟨u, rfl, hu⟩ := gd_np gu
  obtain ⟨v', l3, e3, gv, d3⟩ := run_own d2
  obtain ⟨v0, rfl, hv0⟩ := gd_np gv
  obtain ⟨v, l4, sv, hv, d4⟩ := run_v d3 (.pu (Np c)) .un .un .un .un hu hv0
  obtain ⟨s4, sn⟩ := step_num c2 l4 (.pu (Np u)) (.pu (Np v)) .un .un .un
  obtain ⟨n, l5, e5, n0, n1, d5⟩ := run_take d4 2 (by decide) (by decide +kernel)
  obtain ⟨l6, d6, sp⟩ := step_pow d5 hv (.pu (Np c)) (.pu (Np u)) s4 (.pu (.bl (decide (n = 1)))) .un .un
  obtain ⟨k, l7, e7, k0, k1, d7⟩ := run_take d6 12 (by decide) (by decide +kernel)
  obtain ⟨L, l8, y, er, d8, hL, hlen⟩ := row_loop (.pu (Np c)) (.pu (Np u)) (.pu (Np v)) s4 (.pu (.bl (decide (n = 1)))) .un (rngD 0 k.toNat) .un d7 fun _ z => by cases z
  have hk : (rngD 0 k.toNat).length = k.toNat := by unfold rngD; simp
  obtain ⟨L', l9, d9, hL', hlen', sa⟩ := step_app d8 (.pu (Np c)) (.pu (Np u)) (.pu (Np v)) s4 (.pu (.bl (decide (n = 1)))) .un L hL (by omega)
  obtain ⟨T, hT1, hT2⟩ := sh L' hL' hlen'
  obtain ⟨l10, err, _⟩ := run_row_right d9 (B := 270) (by decide) (by decide) L' hL' (by omega) (by omega) T hT1 hT2
  have t1 := run_two_right (gp_gd hu) (gp_gd hv) (by decide) (by decide) (by decide)
  have t2 := run_two_right (gp_gd hv) (gp_gd hu) (by decide) (by decide) (by decide)
  refine ⟨l10, ?_⟩
  apply def_rt (st := [.ow l]) rfl rfl
  · unfold r__law_right
    apply sSeq_r (st1 := [.ow l3, .pu (Np c), .pu (Np u), .pu (Np v0), .un, .un, .un, .un])
    · apply sPar3_r (d := Np c) (e := Np u) (g := Np v0)
      · apply aCons_r
        · apply eCallA_io (l := l)
          · exact rfl
          · exact e1
        · apply aCons_r
          · apply eCallA_io (l := l1)
            · exact rfl
            · exact e2
          · apply aCons_r
            · apply eCallA_io (l := l2)
              · exact rfl
              · exact e3
            · exact aNil_r
            · exact rfl
          · exact rfl
        · exact rfl
      · decide
      · exact rfl
    · apply sSeq_r
      · exact sv
      · apply sSeq_r
        · exact step_is hu.1 l4 _ _ _ _ _
        · apply sSeq_r
          · exact sn
          · apply sSeq_r (st1 := [.ow l5, .pu (Np c), .pu (Np u), .pu (Np v), s4, .pu (.bl (decide (n = 1))), .un, .un])
            · apply sSet_r
              · apply eBin_r
                · apply eCallA_iov (l := l4) (l1 := l4)
                  · exact rfl
                  · exact eC_r
                  · exact rfl
                  · exact e5
                · exact eC_r
                · exact fEqI_r
              · apply putS_r
                · simp
                · exact rfl
            · apply sSeq_r
              · exact step_div cl hu.1 _ l5 _ _ _ _ _
              · apply sSeq_r
                · exact sp
                · apply sSeq_r (st1 := [.ow l8, .pu (Np c), .pu (Np u), .pu (Np v), s4, .pu (.bl (decide (n = 1))), .ow (L.map Np), .un])
                  · apply sSet_r
                    · apply eLc_r (st1 := [.ow l7, .pu (Np c), .pu (Np u), .pu (Np v), s4, .pu (.bl (decide (n = 1))), .un, .un]) (st3 := [.ow l8, .pu (Np c), .pu (Np u), .pu (Np v), s4, .pu (.bl (decide (n = 1))), .un, .un]) (ds := rngD 0 k.toNat)
                      · apply iRng_r
                        · exact eCallA_iov (l := l6) (l1 := l6) (l' := l7) (st1 := [.ow l6, .pu (Np c), .pu (Np u), .pu (Np v), s4, .pu (.bl (decide (n = 1))), .un, .un]) rfl eC_r rfl e7
                        · omega
                      · exact ⟨rfl, by omega⟩
                      · exact er
                      · exact rfl
                      · exact rfl
                    · apply putS_ow
                      · simp
                      · exact rfl
                  · apply sSeq_r
                    · exact sa
                    · apply sRet_r
                      apply eAnd_r (c := true)
                      · apply eCallP_r (ds := [Np u, Np v])
                        · walk_at "ev"
                        · exact t1
                      · rfl
                      · rw [if_pos rfl]
                        apply eAnd_r (c := true)
                        · apply eCallP_r (ds := [Np v, Np u])
                          · walk_at "ev"
                          · exact t2
                        · rfl
                        · rw [if_pos rfl]
                          apply eCallA_iov (l := l9) (l1 := l9)
                          · exact rfl
                          · apply eVar_ow; exact rfl
                          · exact rfl
                          · exact err
  · exact rfl
end G
end

end

section
set_option Elab.async false
set_option linter.all false
set_option maxRecDepth 100000
set_option maxHeartbeats 8000000
set_option exponentiation.threshold 10000
noncomputable section
namespace G
open PySem L2 TX
theorem eCallA_tmpv {st st1 st2 : List Sl} {l l' : List D} {φ e b : EvE} {x z : R1} {s : Sl} (he : e st = .ok (.lst l, true) st1) (hb : b st1 = .ok x st2) (hf : φ [.ow l, .pu x.1] = .ok z [.ow l', s]) : eCallA [.tmp e, .v b] φ st = .ok z st2 := by
  unfold eCallA agEv; rw [he]; show (O.bind (O.bind (agEv [.v b] st1) _) _) = _
  unfold agEv; rw [hb]; show (if ([] : List Nat).Nodup then _ else O.no) = _; rw [if_pos (by simp)]
  show (match φ [.ow l, .pu x.1] with | .ok z a' => _ | .ex c d a' => _ | .no => O.no) = _; rw [hf]; rfl
theorem law_loop (cl : Nat → Addr) (sh : Shown) (ns : List Int) (s2 : Sl) : ∀ (ks : List Nat) (x : Sl), (∀ k ∈ ks, k ≤ 100000) → ∃ y, sFor (putN [] 1) (sIf (tNot' (tOf (eCallA (.tmp (eCallP (aCons (eVar 0) (aCons (eVar 1) (aNil))) id f__law_deck) :: []) (f__law_right cl)))) (sRet (eC (.bl false))) (sSkip)) (ks.map fun (k : Nat) => .int (0 + (k : Int))) [.pu (.scr ns), x, s2] = .nx [.pu (.scr ns), y, s2]
  | [], x, _ => ⟨x, rfl⟩
  | k :: ks, x, h => by
    have hk := h k List.mem_cons_self
    obtain ⟨l, e1, d1⟩ := run_deck ns (0 + (k : Int)) (by omega) (by omega)
    obtain ⟨l', e2⟩ := run_right cl sh d1
    obtain ⟨y, hy⟩ := law_loop cl sh ns s2 ks (.pu (.int (0 + (k : Int)))) fun j hj => h j (List.mem_cons_of_mem _ hj)
    refine ⟨y, ?_⟩
    apply sFor_cons (st1 := [.pu (.scr ns), .pu (.int (0 + (k : Int))), s2]) (s := [.pu (.scr ns), .pu (.int (0 + (k : Int))), s2])
    · exact rfl
    · apply sIf_r (c := false) (st1 := [.pu (.scr ns), .pu (.int (0 + (k : Int))), s2])
      · apply tNot_r (c := true)
        apply tOf_r
        · apply eCallA_tmp
          · apply eCallP_r (ds := [.scr ns, .int (0 + (k : Int))])
            · walk_at "ev"
            · exact e1
          · exact e2
        · rfl
      · exact rfl
    · exact hy
theorem pair_loop (s0 s1 : Sl) : ∀ (L : List (Int × Int)) (x : Sl), ∃ y, sFor (putN [] 2) (sIf (tNot' (tOf (eCallP (aCons (eCallP (aCons (eVar 2) (aNil)) id f_is_number) (aCons (eCallP (aCons (eVar 2) (aNil)) id f__law_is) (aNil))) id (f__law_same 8)))) (sRet (eC (.bl false))) (sSkip)) (L.map Np) [s0, s1, x] = .nx [s0, s1, y]
  | [], x => ⟨x, rfl⟩
  | u :: L, x => by
    obtain ⟨y, hy⟩ := pair_loop s0 s1 L (.pu (Np u))
    refine ⟨y, ?_⟩
    apply sFor_cons (st1 := [s0, s1, .pu (Np u)]) (s := [s0, s1, .pu (Np u)])
    · exact rfl
    · apply sIf_r (c := false) (st1 := [s0, s1, .pu (Np u)])
      · apply same_not (d := .bl (decide (Nb u.1 u.2))) (st1 := [s0, s1, .pu (Np u)])
        · apply eCallP_r (ds := [Np u])
          · walk_at "ev"
          · exact run_isnum u.1 u.2
        · apply eCallP_r (ds := [Np u])
          · walk_at "ev"
          · exact run_lawis u.1 u.2
        · exact rfl
        · exact rfl
        · exact .bl _ _
      · exact rfl
    · exact hy
theorem run_law (sh : Shown) (cl : Nat → Addr) (ns : List Int) (hn : ns.length ≤ 63) : ∃ b st, f_law cl [.pu (.scr ns)] = .ok (.bl true, b) st := by
  have hm : ∃ m : Nat, m ≤ 30 ∧ (if (if (30 : Int) < (ns.length : Int) then 30 else (ns.length : Int)) > 3 then (if (30 : Int) < (ns.length : Int) then 30 else (ns.length : Int)) else 3) = (m : Int) := by
    by_cases h : (30 : Int) < (ns.length : Int)
    · rw [if_pos h]; exact ⟨30, by omega, rfl⟩
    · rw [if_neg h]
      by_cases h2 : (ns.length : Int) > 3
      · rw [if_pos h2]; exact ⟨ns.length, by omega, rfl⟩
      · rw [if_neg h2]; exact ⟨3, by omega, rfl⟩
  obtain ⟨m, hm1, hm2⟩ := hm
  obtain ⟨y, hy⟩ := law_loop cl sh ns .un (List.range m) .un fun k hk => by have := List.mem_range.mp hk; omega
  obtain ⟨z, hz⟩ := pair_loop (.pu (.scr ns)) y [(0, 1), (0, 2), (0, -1), (0, 0), (1, 0), (-1, 1), (1, -1), (2, 4), (3, 9), (4, 9)] .un
  obtain ⟨T, h1, h2⟩ := sh [] (fun _ h => by cases h) (by simp)
  obtain ⟨l', er, _⟩ := run_row_right (l := [.int 0, .int 7]) ⟨0, 7, rfl, by decide, by decide⟩ (B := 270) (by decide) (by decide) [] (fun _ h => by cases h) (by simp) (by simp) T h1 h2
  refine ⟨false, [.pu (.scr ns)], ?_⟩
  apply def_rt (st := [.pu (.scr ns)]) rfl rfl
  · unfold r_law
    apply sSeq_r (st1 := [.pu (.scr ns), y, .un])
    · apply sForI_r (ds := (List.range m).map fun (k : Nat) => .int (0 + (k : Int)))
      · have e : rngD 0 ((m : Int)).toNat = (List.range m).map fun (k : Nat) => .int (0 + (k : Int)) := by unfold rngD; rw [Int.toNat_natCast]
        rw [← e]
        apply iRng_r (n := (m : Int)) (c := false)
        · apply eBin_r
          · exact eC_r
          · apply eBin_r
            · apply eV1_r (d := .scr ns)
              · exact rfl
              · exact rfl
            · exact eC_r
            · exact rfl
          · show some (D.int _, false) = _
            rw [← hm2]
        · omega
      · exact hy
    · apply sSeq_r (st1 := [.pu (.scr ns), y, z])
      · apply sForI_r
        · apply iSeq_l
          walk_at "ev"
        · exact hz
      · apply sRet_r
        apply eCallA_tmpv (l := [.int 0, .int 7])
        · walk_at "ev"
        · apply eLst_r
          · exact aNil_r
          · simp
          · exact rfl
        · exact er
  · exact rfl
end G
end

end

section
set_option Elab.async false
set_option linter.all false
set_option maxRecDepth 100000
set_option maxHeartbeats 4000000
set_option exponentiation.threshold 10000
noncomputable section
namespace G
open PySem L2 TX
def Ok (k : Nat) (x : Str) : Prop := x.length ≤ k ∧ PyData.strOk x = true
theorem Ok.mono {j k : Nat} {x : Str} (h : Ok j x) (hk : j ≤ k) : Ok k x := ⟨Nat.le_trans h.1 hk, h.2⟩
theorem Ok.app {j k : Nat} {x y : Str} (h : Ok j x) (g : Ok k y) : Ok (j + k) (x ++ y) := by
  refine ⟨?_, ?_⟩
  · rw [strLen_append]; have := h.1; have := g.1; omega
  · show (x.cps ++ y.cps).all (· < 0x110000) = true
    rw [Array.all_append]
    have h1 : x.cps.all (· < 0x110000) = true := h.2
    have h2 : y.cps.all (· < 0x110000) = true := g.2
    rw [h1, h2]
    rfl
theorem ok_string (s : String) {k : Nat} (h : s.length ≤ k) : Ok k (Str.ofString s) := by
  refine ⟨by rw [ofString_length]; exact h, ?_⟩
  show (Str.ofString s).cps.all (· < 0x110000) = true
  rw [Str.ofString_eq_toList]
  rw [Array.all_eq_true']
  intro n hn
  simp at hn
  obtain ⟨c, _, rfl⟩ := hn
  have := c.valid
  have hv : c.toNat < 0x110000 := by
    rcases this with h | h
    · have : c.toNat < 0xd800 := h
      omega
    · exact h.2
  exact decide_eq_true hv
theorem ok_int {a : Int} (h : a.natAbs < 2 ^ 270) : Ok 271 (PyData.int a).shown := by
  show Ok 271 (Str.ofString (toString a))
  exact ok_string _ (int_text_length_le (by decide) (log2_lt h (by decide)))
theorem ok_pair {u : Int × Int} (h1 : u.1.natAbs < 2 ^ 270) (h2 : u.2.natAbs < 2 ^ 270) : Ok 600 (Np u).toP.shown := by
  show Ok 600 (tupleText [(PyData.int u.1).shown, (PyData.int u.2).shown])
  have a := ok_int h1
  have b := ok_int h2
  have c : Ok 2 (Str.ofString ", ") := ok_string _ (by decide)
  have d : Ok 1 (Str.ofString "(") := ok_string _ (by decide)
  have e : Ok 1 (Str.ofString ")") := ok_string _ (by decide)
  exact ((d.app ((a.app c).app b)).app e).mono (by decide)
theorem ok_from : ∀ (ts : List Str) (k j : Nat) (acc : Str), Ok j acc → (∀ t ∈ ts, Ok 600 t) → Ok (j + 602 * ts.length) (textFrom k acc ts)
  | [], _, j, acc, h, _ => h
  | t :: ts, k, j, acc, h, ht => by
    have sep : Ok 2 (Str.ofString (if k > 0 then ", " else "" : String)) := by
      split
      · exact ok_string _ (by decide)
      · exact ok_string _ (by decide)
    have := ok_from ts (k + 1) (j + 2 + 600) _ ((h.app sep).app (ht t List.mem_cons_self)) fun x hx => ht x (List.mem_cons_of_mem _ hx)
    rw [List.length_cons]
    exact this.mono (by omega)
theorem shown_all : ∀ L : List (Int × Int), (∀ u ∈ L, Gp 270 u) → (∀ t ∈ PyData.shownAll (D.toPs (L.map Np)), Ok 600 t) ∧ (PyData.shownAll (D.toPs (L.map Np))).length = L.length ∧ PyData.showableAll (D.toPs (L.map Np)) = true
  | [], _ => ⟨fun t h => (by cases h), rfl, rfl⟩
  | u :: L, h => by
    obtain ⟨h1, h2, h3⟩ := shown_all L fun v hv => h v (List.mem_cons_of_mem _ hv)
    have hu := h u List.mem_cons_self
    refine ⟨fun t ht => ?_, ?_, ?_⟩
    · rcases List.mem_cons.mp (show t ∈ (Np u).toP.shown :: PyData.shownAll (D.toPs (L.map Np)) from ht) with rfl | ht
      · exact ok_pair hu.2.1 hu.2.2
      · exact h1 t ht
    · show (PyData.shownAll (D.toPs (L.map Np))).length + 1 = L.length + 1
      rw [h2]
    · have a : u.1.natAbs.log2 < 1920 := by have := log2_lt hu.2.1 (by decide); omega
      have b : u.2.natAbs.log2 < 1920 := by have := log2_lt hu.2.2 (by decide); omega
      show (PyData.showable (.tuple [.int u.1, .int u.2]) && PyData.showableAll (D.toPs (L.map Np))) = true
      rw [h3]
      simp [PyData.showable, PyData.showableAll, a, b]
theorem shown : Shown := fun L hL hlen => by
  obtain ⟨h1, h2, h3⟩ := shown_all L hL
  have T := (ok_from (PyData.shownAll (D.toPs (L.map Np))) 0 1 (Str.ofString "[") (ok_string _ (by decide)) h1).app (ok_string "]" (k := 1) (by decide))
  rw [h2] at T
  have lay : (PyData.list (D.toPs (L.map Np))).canLay0 = true := by simp only [PyData.canLay0]; exact lay_row L
  have dep : (PyData.list (D.toPs (L.map Np))).depth ≤ 20 := by simp only [PyData.depth]; have := depth_row L; omega
  have shw : (PyData.list (D.toPs (L.map Np))).showable = true := by simp only [PyData.showable]; exact h3
  have len : (PyData.list (D.toPs (L.map Np))).shown.length ≤ sizeLine := by
    have := T.1
    rw [sizeLine_eq]
    exact Nat.le_trans this (by omega)
  refine ⟨(PyData.list (D.toPs (L.map Np))).shown, ?_, T.2⟩
  exact if_pos ⟨rfl, lay, shw, dep, len⟩
end G
end

end

section
set_option Elab.async false
set_option linter.all false
set_option maxRecDepth 100000
set_option maxHeartbeats 2000000
noncomputable section
namespace G
open PySem PySem.Spec PyProof.Rows L2 TX
/-! ### the text -/
def top (i : Nat) : Stmt := PySem.Challenge.pw_oneservesall_k01_whole_numbers.main.body.getD i (.Pass ⟨0, 0, 0, 0⟩)
abbrev s_is_whole : Stmt := top 8
abbrev s_is_number : Stmt := top 9
abbrev s_check_count : Stmt := top 10
abbrev s_number : Stmt := top 11
abbrev s_plus : Stmt := top 12
abbrev s_minus : Stmt := top 13
abbrev s_times : Stmt := top 14
abbrev s_by : Stmt := top 15
abbrev s_power : Stmt := top 16
abbrev s_below : Stmt := top 17
abbrev s_least : Stmt := top 18
abbrev s_greatest : Stmt := top 19
abbrev s_total : Stmt := top 20
abbrev s__is_less : Stmt := top 21
abbrev s__check_all : Stmt := top 22
abbrev s__check_not_empty : Stmt := top 23
abbrev s__law_deck : Stmt := top 25
abbrev s__law_take : Stmt := top 26
abbrev s__law_gcd : Stmt := top 27
abbrev s__law_pair : Stmt := top 28
abbrev s__law_plus : Stmt := top 29
abbrev s__law_times : Stmt := top 30
abbrev s__law_less : Stmt := top 31
abbrev s__law_same : Stmt := top 32
abbrev s__law_integer : Stmt := top 33
abbrev s__law_couple : Stmt := top 34
abbrev s__law_own : Stmt := top 35
abbrev s__law_small : Stmt := top 36
abbrev s__law_is : Stmt := top 37
abbrev s__law_divided : Stmt := top 38
abbrev s__law_two_right : Stmt := top 39
abbrev s__law_power_right : Stmt := top 40
abbrev s__law_row_right : Stmt := top 41
abbrev s__law_right : Stmt := top 42
abbrev s_law : Stmt := top 43
/-! ### what the head gives -/
structure En (K : PySem.W.Frag) (mg : Str → Option Value) where
  cl : Nat → Addr
  fI : Addr
  c_TellError : mg "TellError" = some (.ref (cl 0))
  T_TellError : PySem.TellX.TellTxt K (cl 0) fI
  c_InvalidNumber : mg "InvalidNumber" = some (.ref (cl 1))
  T_InvalidNumber : PySem.TellX.TellTxt K (cl 1) fI
  c_DividedByZero : mg "DividedByZero" = some (.ref (cl 2))
  T_DividedByZero : PySem.TellX.TellTxt K (cl 2) fI
  EK : ErrK K cl mt 3
  a_is_whole : Addr
  fd_is_whole : FuncData
  F_is_whole : FunD K "is_whole" "is_whole" (defArgs s_is_whole) (defBody s_is_whole) (defScope s_is_whole) [] [] a_is_whole fd_is_whole
  g_is_whole : mg "is_whole" = some (.ref a_is_whole)
  a_is_number : Addr
  fd_is_number : FuncData
  F_is_number : FunD K "is_number" "is_number" (defArgs s_is_number) (defBody s_is_number) (defScope s_is_number) [] [] a_is_number fd_is_number
  g_is_number : mg "is_number" = some (.ref a_is_number)
  a_check_count : Addr
  fd_check_count : FuncData
  F_check_count : FunD K "check_count" "check_count" (defArgs s_check_count) (defBody s_check_count) (defScope s_check_count) [] [] a_check_count fd_check_count
  g_check_count : mg "check_count" = some (.ref a_check_count)
  a_number : Addr
  fd_number : FuncData
  F_number : FunD K "number" "number" (defArgs s_number) (defBody s_number) (defScope s_number) [] [] a_number fd_number
  g_number : mg "number" = some (.ref a_number)
  a_plus : Addr
  fd_plus : FuncData
  F_plus : FunD K "plus" "plus" (defArgs s_plus) (defBody s_plus) (defScope s_plus) [] [] a_plus fd_plus
  g_plus : mg "plus" = some (.ref a_plus)
  a_minus : Addr
  fd_minus : FuncData
  F_minus : FunD K "minus" "minus" (defArgs s_minus) (defBody s_minus) (defScope s_minus) [] [] a_minus fd_minus
  g_minus : mg "minus" = some (.ref a_minus)
  a_times : Addr
  fd_times : FuncData
  F_times : FunD K "times" "times" (defArgs s_times) (defBody s_times) (defScope s_times) [] [] a_times fd_times
  g_times : mg "times" = some (.ref a_times)
  a_by : Addr
  fd_by : FuncData
  F_by : FunD K "by" "by" (defArgs s_by) (defBody s_by) (defScope s_by) [] [] a_by fd_by
  g_by : mg "by" = some (.ref a_by)
  a_power : Addr
  fd_power : FuncData
  F_power : FunD K "power" "power" (defArgs s_power) (defBody s_power) (defScope s_power) [] [] a_power fd_power
  g_power : mg "power" = some (.ref a_power)
  a_below : Addr
  fd_below : FuncData
  F_below : FunD K "below" "below" (defArgs s_below) (defBody s_below) (defScope s_below) [] [] a_below fd_below
  g_below : mg "below" = some (.ref a_below)
  a_least : Addr
  fd_least : FuncData
  F_least : FunD K "least" "least" (defArgs s_least) (defBody s_least) (defScope s_least) [] [] a_least fd_least
  g_least : mg "least" = some (.ref a_least)
  a_greatest : Addr
  fd_greatest : FuncData
  F_greatest : FunD K "greatest" "greatest" (defArgs s_greatest) (defBody s_greatest) (defScope s_greatest) [] [] a_greatest fd_greatest
  g_greatest : mg "greatest" = some (.ref a_greatest)
  a_total : Addr
  fd_total : FuncData
  F_total : FunD K "total" "total" (defArgs s_total) (defBody s_total) (defScope s_total) [] [] a_total fd_total
  g_total : mg "total" = some (.ref a_total)
  a__is_less : Addr
  fd__is_less : FuncData
  F__is_less : FunD K "_is_less" "_is_less" (defArgs s__is_less) (defBody s__is_less) (defScope s__is_less) [] [] a__is_less fd__is_less
  g__is_less : mg "_is_less" = some (.ref a__is_less)
  a__check_all : Addr
  fd__check_all : FuncData
  F__check_all : FunD K "_check_all" "_check_all" (defArgs s__check_all) (defBody s__check_all) (defScope s__check_all) [] [] a__check_all fd__check_all
  g__check_all : mg "_check_all" = some (.ref a__check_all)
  a__check_not_empty : Addr
  fd__check_not_empty : FuncData
  F__check_not_empty : FunD K "_check_not_empty" "_check_not_empty" (defArgs s__check_not_empty) (defBody s__check_not_empty) (defScope s__check_not_empty) [] [] a__check_not_empty fd__check_not_empty
  g__check_not_empty : mg "_check_not_empty" = some (.ref a__check_not_empty)
  a__law_deck : Addr
  fd__law_deck : FuncData
  F__law_deck : FunD K "_law_deck" "_law_deck" (defArgs s__law_deck) (defBody s__law_deck) (defScope s__law_deck) [] [] a__law_deck fd__law_deck
  g__law_deck : mg "_law_deck" = some (.ref a__law_deck)
  a__law_take : Addr
  fd__law_take : FuncData
  F__law_take : FunD K "_law_take" "_law_take" (defArgs s__law_take) (defBody s__law_take) (defScope s__law_take) [] [] a__law_take fd__law_take
  g__law_take : mg "_law_take" = some (.ref a__law_take)
  a__law_gcd : Addr
  fd__law_gcd : FuncData
  F__law_gcd : FunD K "_law_gcd" "_law_gcd" (defArgs s__law_gcd) (defBody s__law_gcd) (defScope s__law_gcd) [] [] a__law_gcd fd__law_gcd
  g__law_gcd : mg "_law_gcd" = some (.ref a__law_gcd)
  a__law_pair : Addr
  fd__law_pair : FuncData
  F__law_pair : FunD K "_law_pair" "_law_pair" (defArgs s__law_pair) (defBody s__law_pair) (defScope s__law_pair) [] [] a__law_pair fd__law_pair
  g__law_pair : mg "_law_pair" = some (.ref a__law_pair)
  a__law_plus : Addr
  fd__law_plus : FuncData
  F__law_plus : FunD K "_law_plus" "_law_plus" (defArgs s__law_plus) (defBody s__law_plus) (defScope s__law_plus) [] [] a__law_plus fd__law_plus
  g__law_plus : mg "_law_plus" = some (.ref a__law_plus)
  a__law_times : Addr
  fd__law_times : FuncData
  F__law_times : FunD K "_law_times" "_law_times" (defArgs s__law_times) (defBody s__law_times) (defScope s__law_times) [] [] a__law_times fd__law_times
  g__law_times : mg "_law_times" = some (.ref a__law_times)
  a__law_less : Addr
  fd__law_less : FuncData
  F__law_less : FunD K "_law_less" "_law_less" (defArgs s__law_less) (defBody s__law_less) (defScope s__law_less) [] [] a__law_less fd__law_less
  g__law_less : mg "_law_less" = some (.ref a__law_less)
  a__law_same : Addr
  fd__law_same : FuncData
  F__law_same : FunD K "_law_same" "_law_same" (defArgs s__law_same) (defBody s__law_same) (defScope s__law_same) [] [] a__law_same fd__law_same
  g__law_same : mg "_law_same" = some (.ref a__law_same)
  a__law_integer : Addr
  fd__law_integer : FuncData
  F__law_integer : FunD K "_law_integer" "_law_integer" (defArgs s__law_integer) (defBody s__law_integer) (defScope s__law_integer) [] [] a__law_integer fd__law_integer
  g__law_integer : mg "_law_integer" = some (.ref a__law_integer)
  a__law_couple : Addr
  fd__law_couple : FuncData
  F__law_couple : FunD K "_law_couple" "_law_couple" (defArgs s__law_couple) (defBody s__law_couple) (defScope s__law_couple) [] [] a__law_couple fd__law_couple
  g__law_couple : mg "_law_couple" = some (.ref a__law_couple)
  a__law_own : Addr
  fd__law_own : FuncData
  F__law_own : FunD K "_law_own" "_law_own" (defArgs s__law_own) (defBody s__law_own) (defScope s__law_own) [] [] a__law_own fd__law_own
  g__law_own : mg "_law_own" = some (.ref a__law_own)
  a__law_small : Addr
  fd__law_small : FuncData
  F__law_small : FunD K "_law_small" "_law_small" (defArgs s__law_small) (defBody s__law_small) (defScope s__law_small) [] [] a__law_small fd__law_small
  g__law_small : mg "_law_small" = some (.ref a__law_small)
  a__law_is : Addr
  fd__law_is : FuncData
  F__law_is : FunD K "_law_is" "_law_is" (defArgs s__law_is) (defBody s__law_is) (defScope s__law_is) [] [] a__law_is fd__law_is
  g__law_is : mg "_law_is" = some (.ref a__law_is)
  a__law_divided : Addr
  fd__law_divided : FuncData
  F__law_divided : FunD K "_law_divided" "_law_divided" (defArgs s__law_divided) (defBody s__law_divided) (defScope s__law_divided) [] [] a__law_divided fd__law_divided
  g__law_divided : mg "_law_divided" = some (.ref a__law_divided)
  a__law_two_right : Addr
  fd__law_two_right : FuncData
  F__law_two_right : FunD K "_law_two_right" "_law_two_right" (defArgs s__law_two_right) (defBody s__law_two_right) (defScope s__law_two_right) [] [] a__law_two_right fd__law_two_right
  g__law_two_right : mg "_law_two_right" = some (.ref a__law_two_right)
  a__law_power_right : Addr
  fd__law_power_right : FuncData
  F__law_power_right : FunD K "_law_power_right" "_law_power_right" (defArgs s__law_power_right) (defBody s__law_power_right) (defScope s__law_power_right) [] [] a__law_power_right fd__law_power_right
  g__law_power_right : mg "_law_power_right" = some (.ref a__law_power_right)
  a__law_row_right : Addr
  fd__law_row_right : FuncData
  F__law_row_right : FunD K "_law_row_right" "_law_row_right" (defArgs s__law_row_right) (defBody s__law_row_right) (defScope s__law_row_right) [] [] a__law_row_right fd__law_row_right
  g__law_row_right : mg "_law_row_right" = some (.ref a__law_row_right)
  a__law_right : Addr
  fd__law_right : FuncData
  F__law_right : FunD K "_law_right" "_law_right" (defArgs s__law_right) (defBody s__law_right) (defScope s__law_right) [] [] a__law_right fd__law_right
  g__law_right : mg "_law_right" = some (.ref a__law_right)
  a_law : Addr
  fd_law : FuncData
  F_law : FunD K "law" "law" (defArgs s_law) (defBody s_law) (defScope s_law) [] [] a_law fd_law
  g_law : mg "law" = some (.ref a_law)
  v_ZERO : V
  u_ZERO : Value
  g_ZERO : mg "ZERO" = some u_ZERO
  r_ZERO : RelV v_ZERO u_ZERO
  q_ZERO : ∀ H, Dq K H v_ZERO d_ZERO
  v_ONE : V
  u_ONE : Value
  g_ONE : mg "ONE" = some u_ONE
  r_ONE : RelV v_ONE u_ONE
  q_ONE : ∀ H, Dq K H v_ONE d_ONE
  n_abs : mg "abs" = none
  n_bool : mg "bool" = none
  n_int : mg "int" = none
  n_isinstance : mg "isinstance" = none
  n_len : mg "len" = none
  n_list : mg "list" = none
  n_max : mg "max" = none
  n_min : mg "min" = none
  n_range : mg "range" = none
  n_repr : mg "repr" = none
  n_str : mg "str" = none
  n_tuple : mg "tuple" = none
  m_gcd : mg "gcd" = some (.builtin "math.gcd")
variable {P : Program} {w : World} {K : PySem.W.Frag} {mg : Str → Option Value} {base : Heap}
theorem b_is_whole (e : En K mg) : Binds K e.fd_is_whole ["told"] [] := e.F_is_whole.bindsN fun _ _ _ _ _ _ us hl => match us, hl with | [_], _ => rfl
theorem b_is_number (e : En K mg) : Binds K e.fd_is_number ["told"] [] := e.F_is_number.bindsN fun _ _ _ _ _ _ us hl => match us, hl with | [_], _ => rfl
theorem b_check_count (e : En K mg) : Binds K e.fd_check_count ["n"] [] := e.F_check_count.bindsN fun _ _ _ _ _ _ us hl => match us, hl with | [_], _ => rfl
theorem b_number (e : En K mg) : Binds K e.fd_number ["top", "bottom"] [] := e.F_number.bindsN fun _ _ _ _ _ _ us hl => match us, hl with | [_, _], _ => rfl
theorem b__check_all (e : En K mg) : Binds K e.fd__check_all ["numbers"] [] := e.F__check_all.bindsN fun _ _ _ _ _ _ us hl => match us, hl with | [_], _ => rfl
theorem b_plus (e : En K mg) : Binds K e.fd_plus ["a", "b"] [] := e.F_plus.bindsN fun _ _ _ _ _ _ us hl => match us, hl with | [_, _], _ => rfl
theorem b_minus (e : En K mg) : Binds K e.fd_minus ["a", "b"] [] := e.F_minus.bindsN fun _ _ _ _ _ _ us hl => match us, hl with | [_, _], _ => rfl
theorem b_times (e : En K mg) : Binds K e.fd_times ["a", "b"] [] := e.F_times.bindsN fun _ _ _ _ _ _ us hl => match us, hl with | [_, _], _ => rfl
theorem b_by (e : En K mg) : Binds K e.fd_by ["a", "b"] [] := e.F_by.bindsN fun _ _ _ _ _ _ us hl => match us, hl with | [_, _], _ => rfl
theorem b_power (e : En K mg) : Binds K e.fd_power ["a", "n"] [] := e.F_power.bindsN fun _ _ _ _ _ _ us hl => match us, hl with | [_, _], _ => rfl
theorem b__is_less (e : En K mg) : Binds K e.fd__is_less ["a", "b"] [] := e.F__is_less.bindsN fun _ _ _ _ _ _ us hl => match us, hl with | [_, _], _ => rfl
theorem b_below (e : En K mg) : Binds K e.fd_below ["a", "b"] [] := e.F_below.bindsN fun _ _ _ _ _ _ us hl => match us, hl with | [_, _], _ => rfl
theorem b__check_not_empty (e : En K mg) : Binds K e.fd__check_not_empty ["numbers"] [] := e.F__check_not_empty.bindsN fun _ _ _ _ _ _ us hl => match us, hl with | [_], _ => rfl
theorem b_least (e : En K mg) : Binds K e.fd_least ["numbers"] [] := e.F_least.bindsN fun _ _ _ _ _ _ us hl => match us, hl with | [_], _ => rfl
theorem b_greatest (e : En K mg) : Binds K e.fd_greatest ["numbers"] [] := e.F_greatest.bindsN fun _ _ _ _ _ _ us hl => match us, hl with | [_], _ => rfl
theorem b_total (e : En K mg) : Binds K e.fd_total ["numbers"] [] := e.F_total.bindsN fun _ _ _ _ _ _ us hl => match us, hl with | [_], _ => rfl
theorem b__law_deck (e : En K mg) : Binds K e.fd__law_deck ["script", "k"] [] := e.F__law_deck.bindsN fun _ _ _ _ _ _ us hl => match us, hl with | [_, _], _ => rfl
theorem b__law_take (e : En K mg) : Binds K e.fd__law_take ["deck", "many"] [] := e.F__law_take.bindsN fun _ _ _ _ _ _ us hl => match us, hl with | [_, _], _ => rfl
theorem b__law_gcd (e : En K mg) : Binds K e.fd__law_gcd ["u", "v"] [] := e.F__law_gcd.bindsN fun _ _ _ _ _ _ us hl => match us, hl with | [_, _], _ => rfl
theorem b__law_pair (e : En K mg) : Binds K e.fd__law_pair ["upper", "lower"] [] := e.F__law_pair.bindsN fun _ _ _ _ _ _ us hl => match us, hl with | [_, _], _ => rfl
theorem b__law_plus (e : En K mg) : Binds K e.fd__law_plus ["u", "v"] [] := e.F__law_plus.bindsN fun _ _ _ _ _ _ us hl => match us, hl with | [_, _], _ => rfl
theorem b__law_times (e : En K mg) : Binds K e.fd__law_times ["u", "v"] [] := e.F__law_times.bindsN fun _ _ _ _ _ _ us hl => match us, hl with | [_, _], _ => rfl
theorem b__law_less (e : En K mg) : Binds K e.fd__law_less ["u", "v"] [] := e.F__law_less.bindsN fun _ _ _ _ _ _ us hl => match us, hl with | [_, _], _ => rfl
theorem b__law_same (e : En K mg) : Binds K e.fd__law_same ["found", "due"] [] := e.F__law_same.bindsN fun _ _ _ _ _ _ us hl => match us, hl with | [_, _], _ => rfl
theorem b__law_integer (e : En K mg) : Binds K e.fd__law_integer ["deck"] [] := e.F__law_integer.bindsN fun _ _ _ _ _ _ us hl => match us, hl with | [_], _ => rfl
theorem b__law_couple (e : En K mg) : Binds K e.fd__law_couple ["deck"] [] := e.F__law_couple.bindsN fun _ _ _ _ _ _ us hl => match us, hl with | [_], _ => rfl
theorem b__law_own (e : En K mg) : Binds K e.fd__law_own ["deck"] [] := e.F__law_own.bindsN fun _ _ _ _ _ _ us hl => match us, hl with | [_], _ => rfl
theorem b__law_small (e : En K mg) : Binds K e.fd__law_small ["deck"] [] := e.F__law_small.bindsN fun _ _ _ _ _ _ us hl => match us, hl with | [_], _ => rfl
theorem b__law_is (e : En K mg) : Binds K e.fd__law_is ["pair"] [] := e.F__law_is.bindsN fun _ _ _ _ _ _ us hl => match us, hl with | [_], _ => rfl
theorem b__law_divided (e : En K mg) : Binds K e.fd__law_divided ["door", "u", "named"] [] := e.F__law_divided.bindsN fun _ _ _ _ _ _ us hl => match us, hl with | [_, _, _], _ => rfl
theorem b__law_two_right (e : En K mg) : Binds K e.fd__law_two_right ["u", "v"] [] := e.F__law_two_right.bindsN fun _ _ _ _ _ _ us hl => match us, hl with | [_, _], _ => rfl
theorem b__law_power_right (e : En K mg) : Binds K e.fd__law_power_right ["u", "many"] [] := e.F__law_power_right.bindsN fun _ _ _ _ _ _ us hl => match us, hl with | [_, _], _ => rfl
theorem b__law_row_right (e : En K mg) : Binds K e.fd__law_row_right ["deck", "row"] [] := e.F__law_row_right.bindsN fun _ _ _ _ _ _ us hl => match us, hl with | [_, _], _ => rfl
theorem b__law_right (e : En K mg) : Binds K e.fd__law_right ["deck"] [] := e.F__law_right.bindsN fun _ _ _ _ _ _ us hl => match us, hl with | [_], _ => rfl
theorem b_law (e : En K mg) : Binds K e.fd_law ["script"] [] := e.F_law.bindsN fun _ _ _ _ _ _ us hl => match us, hl with | [_], _ => rfl
theorem kb_number_0_bottom_top (e : En K mg) : KwB e.fd_number ["top", "bottom"] ["bottom", "top"] 0 pm_number_0_bottom_top := kwb_of e.F_number (fun _ _ _ _ _ _ us ws h1 h2 => match us, ws, h1, h2 with | [], [w0, w1], _, _ => rfl) (fun R as bs h r => by rcases r with _ | ⟨p0, _ | ⟨p1, _ | ⟨_, _⟩⟩⟩ <;> first | exact .cons p1 (.cons p0 (.nil)) | (simp at h; done)) (fun K H vs ds h r => by rcases r with _ | ⟨p0, _ | ⟨p1, _ | ⟨_, _⟩⟩⟩ <;> first | exact .cons p1 (.cons p0 (.nil)) | (simp at h; done))
theorem kb_by_0_b_a (e : En K mg) : KwB e.fd_by ["a", "b"] ["b", "a"] 0 pm_by_0_b_a := kwb_of e.F_by (fun _ _ _ _ _ _ us ws h1 h2 => match us, ws, h1, h2 with | [], [w0, w1], _, _ => rfl) (fun R as bs h r => by rcases r with _ | ⟨p0, _ | ⟨p1, _ | ⟨_, _⟩⟩⟩ <;> first | exact .cons p1 (.cons p0 (.nil)) | (simp at h; done)) (fun K H vs ds h r => by rcases r with _ | ⟨p0, _ | ⟨p1, _ | ⟨_, _⟩⟩⟩ <;> first | exact .cons p1 (.cons p0 (.nil)) | (simp at h; done))
theorem kb_plus_0_b_a (e : En K mg) : KwB e.fd_plus ["a", "b"] ["b", "a"] 0 pm_plus_0_b_a := kwb_of e.F_plus (fun _ _ _ _ _ _ us ws h1 h2 => match us, ws, h1, h2 with | [], [w0, w1], _, _ => rfl) (fun R as bs h r => by rcases r with _ | ⟨p0, _ | ⟨p1, _ | ⟨_, _⟩⟩⟩ <;> first | exact .cons p1 (.cons p0 (.nil)) | (simp at h; done)) (fun K H vs ds h r => by rcases r with _ | ⟨p0, _ | ⟨p1, _ | ⟨_, _⟩⟩⟩ <;> first | exact .cons p1 (.cons p0 (.nil)) | (simp at h; done))
theorem kb_minus_0_b_a (e : En K mg) : KwB e.fd_minus ["a", "b"] ["b", "a"] 0 pm_minus_0_b_a := kwb_of e.F_minus (fun _ _ _ _ _ _ us ws h1 h2 => match us, ws, h1, h2 with | [], [w0, w1], _, _ => rfl) (fun R as bs h r => by rcases r with _ | ⟨p0, _ | ⟨p1, _ | ⟨_, _⟩⟩⟩ <;> first | exact .cons p1 (.cons p0 (.nil)) | (simp at h; done)) (fun K H vs ds h r => by rcases r with _ | ⟨p0, _ | ⟨p1, _ | ⟨_, _⟩⟩⟩ <;> first | exact .cons p1 (.cons p0 (.nil)) | (simp at h; done))
theorem kb_times_0_b_a (e : En K mg) : KwB e.fd_times ["a", "b"] ["b", "a"] 0 pm_times_0_b_a := kwb_of e.F_times (fun _ _ _ _ _ _ us ws h1 h2 => match us, ws, h1, h2 with | [], [w0, w1], _, _ => rfl) (fun R as bs h r => by rcases r with _ | ⟨p0, _ | ⟨p1, _ | ⟨_, _⟩⟩⟩ <;> first | exact .cons p1 (.cons p0 (.nil)) | (simp at h; done)) (fun K H vs ds h r => by rcases r with _ | ⟨p0, _ | ⟨p1, _ | ⟨_, _⟩⟩⟩ <;> first | exact .cons p1 (.cons p0 (.nil)) | (simp at h; done))
theorem kb_below_0_b_a (e : En K mg) : KwB e.fd_below ["a", "b"] ["b", "a"] 0 pm_below_0_b_a := kwb_of e.F_below (fun _ _ _ _ _ _ us ws h1 h2 => match us, ws, h1, h2 with | [], [w0, w1], _, _ => rfl) (fun R as bs h r => by rcases r with _ | ⟨p0, _ | ⟨p1, _ | ⟨_, _⟩⟩⟩ <;> first | exact .cons p1 (.cons p0 (.nil)) | (simp at h; done)) (fun K H vs ds h r => by rcases r with _ | ⟨p0, _ | ⟨p1, _ | ⟨_, _⟩⟩⟩ <;> first | exact .cons p1 (.cons p0 (.nil)) | (simp at h; done))
theorem kb_power_0_n_a (e : En K mg) : KwB e.fd_power ["a", "n"] ["n", "a"] 0 pm_power_0_n_a := kwb_of e.F_power (fun _ _ _ _ _ _ us ws h1 h2 => match us, ws, h1, h2 with | [], [w0, w1], _, _ => rfl) (fun R as bs h r => by rcases r with _ | ⟨p0, _ | ⟨p1, _ | ⟨_, _⟩⟩⟩ <;> first | exact .cons p1 (.cons p0 (.nil)) | (simp at h; done)) (fun K H vs ds h r => by rcases r with _ | ⟨p0, _ | ⟨p1, _ | ⟨_, _⟩⟩⟩ <;> first | exact .cons p1 (.cons p0 (.nil)) | (simp at h; done))
theorem kb_total_0_numbers (e : En K mg) : KwB e.fd_total ["numbers"] ["numbers"] 0 pm_total_0_numbers := kwb_of e.F_total (fun _ _ _ _ _ _ us ws h1 h2 => match us, ws, h1, h2 with | [], [w0], _, _ => rfl) (fun R as bs h r => by rcases r with _ | ⟨p0, _ | ⟨_, _⟩⟩ <;> first | exact .cons p0 (.nil) | (simp at h; done)) (fun K H vs ds h r => by rcases r with _ | ⟨p0, _ | ⟨_, _⟩⟩ <;> first | exact .cons p0 (.nil) | (simp at h; done))
theorem kb_greatest_0_numbers (e : En K mg) : KwB e.fd_greatest ["numbers"] ["numbers"] 0 pm_greatest_0_numbers := kwb_of e.F_greatest (fun _ _ _ _ _ _ us ws h1 h2 => match us, ws, h1, h2 with | [], [w0], _, _ => rfl) (fun R as bs h r => by rcases r with _ | ⟨p0, _ | ⟨_, _⟩⟩ <;> first | exact .cons p0 (.nil) | (simp at h; done)) (fun K H vs ds h r => by rcases r with _ | ⟨p0, _ | ⟨_, _⟩⟩ <;> first | exact .cons p0 (.nil) | (simp at h; done))
theorem kb_least_0_numbers (e : En K mg) : KwB e.fd_least ["numbers"] ["numbers"] 0 pm_least_0_numbers := kwb_of e.F_least (fun _ _ _ _ _ _ us ws h1 h2 => match us, ws, h1, h2 with | [], [w0], _, _ => rfl) (fun R as bs h r => by rcases r with _ | ⟨p0, _ | ⟨_, _⟩⟩ <;> first | exact .cons p0 (.nil) | (simp at h; done)) (fun K H vs ds h r => by rcases r with _ | ⟨p0, _ | ⟨_, _⟩⟩ <;> first | exact .cons p0 (.nil) | (simp at h; done))
theorem kb_is_number_0_told (e : En K mg) : KwB e.fd_is_number ["told"] ["told"] 0 pm_is_number_0_told := kwb_of e.F_is_number (fun _ _ _ _ _ _ us ws h1 h2 => match us, ws, h1, h2 with | [], [w0], _, _ => rfl) (fun R as bs h r => by rcases r with _ | ⟨p0, _ | ⟨_, _⟩⟩ <;> first | exact .cons p0 (.nil) | (simp at h; done)) (fun K H vs ds h r => by rcases r with _ | ⟨p0, _ | ⟨_, _⟩⟩ <;> first | exact .cons p0 (.nil) | (simp at h; done))
/-! ### is_whole -/
theorem sc_is_whole : FnScope ["told"] ["told"] (defScope s_is_whole) := ⟨rfl, rfl, rfl, by decide +kernel, rfl, by decide +kernel, by decide +kernel⟩
theorem ok_is_whole (e : En K mg) (n : Nat) : FnOk P w K mg base (L2.CX P w) (n + 1) e.a_is_whole e.fd_is_whole ["told"] (spF K e.cl (f_is_whole)) := have sc := sc_is_whole; def_okD e.F_is_whole sc fun cdv A outer s H E hr => xs_one (xs_ret (x_and (x_isi1V 0 .int (bltn_ty (T := .int) e.n_int (by decide +kernel)) e.n_isinstance) (x_one (x_not (x_isi1V 0 .bool (bltn_ty (T := .bool) e.n_bool (by decide +kernel)) e.n_isinstance)))))
/-! ### is_number -/
theorem sc_is_number : FnScope ["told", "top", "bottom"] ["told"] (defScope s_is_number) := ⟨rfl, rfl, rfl, by decide +kernel, rfl, by decide +kernel, by decide +kernel⟩
theorem ok_is_number (e : En K mg) (n : Nat) : FnOk P w K mg base (L2.CX P w) (n + 2) e.a_is_number e.fd_is_number ["told"] (spF K e.cl (f_is_number)) := have sc := sc_is_number; def_okD e.F_is_number sc fun cdv A outer s H E hr => xs_cons (xs_if (PW.pt (xw_or (xt_not (xt_val (x_isi1V 0 .tuple (bltn_ty (T := .tuple) e.n_tuple (by decide +kernel)) e.n_isinstance))) (xw_one (xt_ne (Room.u64 hr) (x_b1V 0 call_len cb_len e.n_len (by decide +kernel)) (x_int))))) (xs_one (xs_ret (x_bl))) (xs_nil)) (xs_cons (xs_unp [1, 2] (x_var 0) (xg_cons 1 (xg_cons 2 (xg_nil) sc.nd) sc.nd) rfl) (xs_one (xs_ret (x_and (x_call (ok_is_whole e (n + 0)) hr e.g_is_whole e.F_is_whole.kp (b_is_whole e) (takes_of rfl rfl rfl rfl) (xa_cons (x_var 1) (xa_nil))) (x_and (x_call (ok_is_whole e (n + 0)) hr e.g_is_whole e.F_is_whole.kp (b_is_whole e) (takes_of rfl rfl rfl rfl) (xa_cons (x_var 2) (xa_nil))) (x_and (x_gt (x_var 2) (x_int)) (x_one (x_eq (Room.u64 hr) (x_f2 cr_gcd (cb_i2 fun _ _ _ => .int _) e.m_gcd (x_var 1) (x_var 2)) (x_int)))))))))
/-! ### check_count -/
theorem sc_check_count : FnScope ["n"] ["n"] (defScope s_check_count) := ⟨rfl, rfl, rfl, by decide +kernel, rfl, by decide +kernel, by decide +kernel⟩
theorem ok_check_count (e : En K mg) (n : Nat) : FnOk P w K mg base (L2.CX P w) (n + 2) e.a_check_count e.fd_check_count ["n"] (spF K e.cl (f_check_count)) := have sc := sc_check_count; def_okD e.F_check_count sc fun cdv A outer s H E hr => xs_one (xs_if (PW.pt (xw_or (xt_not (xt_val (x_call (ok_is_whole e (n + 0)) hr e.g_is_whole e.F_is_whole.kp (b_is_whole e) (takes_of rfl rfl rfl rfl) (xa_cons (x_var 0) (xa_nil))))) (xw_one (xt_lt (x_var 0) (x_int))))) (xs_one (xs_raise 1 e.T_InvalidNumber e.c_InvalidNumber hr rfl (takes_of rfl rfl rfl rfl) (x_var 0))) (xs_nil))
/-! ### number -/
theorem sc_number : FnScope ["top", "bottom", "shared"] ["top", "bottom"] (defScope s_number) := ⟨rfl, rfl, rfl, by decide +kernel, rfl, by decide +kernel, by decide +kernel⟩
theorem ok_number (e : En K mg) (n : Nat) : FnOk P w K mg base (L2.CX P w) (n + 2) e.a_number e.fd_number ["top", "bottom"] (spF K e.cl (f_number)) := have sc := sc_number; def_okD e.F_number sc fun cdv A outer s H E hr => xs_cons (xs_if (xt_eqV 1 (Room.u64 hr) (x_int)) (xs_one (xs_raise 2 e.T_DividedByZero e.c_DividedByZero hr rfl (takes_of rfl rfl rfl rfl) (x_var 0))) (xs_nil)) (xs_cons (xs_set 2 (x_f2 cr_gcd (cb_i2 fun _ _ _ => .int _) e.m_gcd (x_var 0) (x_var 1)) sc.nd) (xs_cons (xs_if (xt_lt (x_var 1) (x_int)) (xs_one (xs_set 2 (x_neg (x_var 2)) sc.nd)) (xs_nil)) (xs_one (xs_ret (x_tup (xa_cons (x_div (x_var 0) (x_var 2)) (xa_cons (x_div (x_var 1) (x_var 2)) (xa_nil))))))))
/-! ### _check_all -/
theorem sc__check_all : FnScope ["numbers", "a"] ["numbers"] (defScope s__check_all) := ⟨rfl, rfl, rfl, by decide +kernel, rfl, by decide +kernel, by decide +kernel⟩
theorem ok__check_all (e : En K mg) (n : Nat) : FnOk P w K mg base (L2.CX P w) (n + 3) e.a__check_all e.fd__check_all ["numbers"] (spF K e.cl (f__check_all)) := have sc := sc__check_all; def_okD e.F__check_all sc fun cdv A outer s H E hr => xs_one (xs_for (xi_seq (x_var 0)) (pg_name sc.nd rfl (by first | exact Or.inl rfl | exact Or.inr rfl)) (tg_name) (puts_N) (xs_one (xs_if (xt_not (xt_val (x_call (ok_is_number e (n + 0)) hr e.g_is_number e.F_is_number.kp (b_is_number e) (takes_of rfl rfl rfl rfl) (xa_cons (x_var 1) (xa_nil))))) (xs_one (xs_raise 1 e.T_InvalidNumber e.c_InvalidNumber hr rfl (takes_of rfl rfl rfl rfl) (x_var 1))) (xs_nil))) (passes_of rfl) rfl)
/-! ### plus -/
theorem sc_plus : FnScope ["a", "b"] ["a", "b"] (defScope s_plus) := ⟨rfl, rfl, rfl, by decide +kernel, rfl, by decide +kernel, by decide +kernel⟩
theorem ok_plus (e : En K mg) (n : Nat) : FnOk P w K mg base (L2.CX P w) (n + 4) e.a_plus e.fd_plus ["a", "b"] (spF K e.cl (f_plus)) := have sc := sc_plus; def_okD e.F_plus sc fun cdv A outer s H E hr => xs_cons (xs_drop (x_call (ok__check_all e (n + 0)) hr e.g__check_all e.F__check_all.kp (b__check_all e) (takes_of rfl rfl rfl rfl) (xa_cons (x_tup (xa_cons (x_var 0) (xa_cons (x_var 1) (xa_nil)))) (xa_nil)))) (xs_one (xs_ret (x_call (ok_number e (n + 1)) hr e.g_number e.F_number.kp (b_number e) (takes_of rfl rfl rfl rfl) (xa_cons (x_add (x_mul (x_itemV 0 (x_int)) (x_itemV 1 (x_int))) (x_mul (x_itemV 1 (x_int)) (x_itemV 0 (x_int)))) (xa_cons (x_mul (x_itemV 0 (x_int)) (x_itemV 1 (x_int))) (xa_nil))))))
/-! ### minus -/
theorem sc_minus : FnScope ["a", "b"] ["a", "b"] (defScope s_minus) := ⟨rfl, rfl, rfl, by decide +kernel, rfl, by decide +kernel, by decide +kernel⟩
theorem ok_minus (e : En K mg) (n : Nat) : FnOk P w K mg base (L2.CX P w) (n + 4) e.a_minus e.fd_minus ["a", "b"] (spF K e.cl (f_minus)) := have sc := sc_minus; def_okD e.F_minus sc fun cdv A outer s H E hr => xs_cons (xs_drop (x_call (ok__check_all e (n + 0)) hr e.g__check_all e.F__check_all.kp (b__check_all e) (takes_of rfl rfl rfl rfl) (xa_cons (x_tup (xa_cons (x_var 0) (xa_cons (x_var 1) (xa_nil)))) (xa_nil)))) (xs_one (xs_ret (x_call (ok_number e (n + 1)) hr e.g_number e.F_number.kp (b_number e) (takes_of rfl rfl rfl rfl) (xa_cons (x_sub (x_mul (x_itemV 0 (x_int)) (x_itemV 1 (x_int))) (x_mul (x_itemV 1 (x_int)) (x_itemV 0 (x_int)))) (xa_cons (x_mul (x_itemV 0 (x_int)) (x_itemV 1 (x_int))) (xa_nil))))))
/-! ### times -/
theorem sc_times : FnScope ["a", "b"] ["a", "b"] (defScope s_times) := ⟨rfl, rfl, rfl, by decide +kernel, rfl, by decide +kernel, by decide +kernel⟩
theorem ok_times (e : En K mg) (n : Nat) : FnOk P w K mg base (L2.CX P w) (n + 4) e.a_times e.fd_times ["a", "b"] (spF K e.cl (f_times)) := have sc := sc_times; def_okD e.F_times sc fun cdv A outer s H E hr => xs_cons (xs_drop (x_call (ok__check_all e (n + 0)) hr e.g__check_all e.F__check_all.kp (b__check_all e) (takes_of rfl rfl rfl rfl) (xa_cons (x_tup (xa_cons (x_var 0) (xa_cons (x_var 1) (xa_nil)))) (xa_nil)))) (xs_one (xs_ret (x_call (ok_number e (n + 1)) hr e.g_number e.F_number.kp (b_number e) (takes_of rfl rfl rfl rfl) (xa_cons (x_mul (x_itemV 0 (x_int)) (x_itemV 1 (x_int))) (xa_cons (x_mul (x_itemV 0 (x_int)) (x_itemV 1 (x_int))) (xa_nil))))))
/-! ### by -/
theorem sc_by : FnScope ["a", "b"] ["a", "b"] (defScope s_by) := ⟨rfl, rfl, rfl, by decide +kernel, rfl, by decide +kernel, by decide +kernel⟩
theorem ok_by (e : En K mg) (n : Nat) : FnOk P w K mg base (L2.CX P w) (n + 4) e.a_by e.fd_by ["a", "b"] (spF K e.cl (f_by)) := have sc := sc_by; def_okD e.F_by sc fun cdv A outer s H E hr => xs_cons (xs_drop (x_call (ok__check_all e (n + 0)) hr e.g__check_all e.F__check_all.kp (b__check_all e) (takes_of rfl rfl rfl rfl) (xa_cons (x_tup (xa_cons (x_var 0) (xa_cons (x_var 1) (xa_nil)))) (xa_nil)))) (xs_cons (xs_if (xt_eqV 1 (Room.u64 hr) (x_glob e.g_ZERO e.r_ZERO e.q_ZERO)) (xs_one (xs_raise 2 e.T_DividedByZero e.c_DividedByZero hr rfl (takes_of rfl rfl rfl rfl) (x_var 0))) (xs_nil)) (xs_one (xs_ret (x_call (ok_number e (n + 1)) hr e.g_number e.F_number.kp (b_number e) (takes_of rfl rfl rfl rfl) (xa_cons (x_mul (x_itemV 0 (x_int)) (x_itemV 1 (x_int))) (xa_cons (x_mul (x_itemV 0 (x_int)) (x_itemV 1 (x_int))) (xa_nil)))))))
/-! ### power -/
theorem sc_power : FnScope ["a", "n", "top", "bottom", "_"] ["a", "n"] (defScope s_power) := ⟨rfl, rfl, rfl, by decide +kernel, rfl, by decide +kernel, by decide +kernel⟩
theorem ok_power (e : En K mg) (n : Nat) : FnOk P w K mg base (L2.CX P w) (n + 4) e.a_power e.fd_power ["a", "n"] (spF K e.cl (f_power)) := have sc := sc_power; def_okD e.F_power sc fun cdv A outer s H E hr => xs_cons (xs_drop (x_call (ok__check_all e (n + 0)) hr e.g__check_all e.F__check_all.kp (b__check_all e) (takes_of rfl rfl rfl rfl) (xa_cons (x_tup (xa_cons (x_var 0) (xa_nil))) (xa_nil)))) (xs_cons (xs_drop (x_call (ok_check_count e (n + 1)) hr e.g_check_count e.F_check_count.kp (b_check_count e) (takes_of rfl rfl rfl rfl) (xa_cons (x_var 1) (xa_nil)))) (xs_cons (xs_unp [2, 3] (x_glob e.g_ONE e.r_ONE e.q_ONE) (xg_cons 2 (xg_cons 3 (xg_nil) sc.nd) sc.nd) rfl) (xs_cons (xs_for (xi_rng e.n_range (x_var 1)) (pg_name sc.nd rfl (by first | exact Or.inl rfl | exact Or.inr rfl)) (tg_name) (puts_N) (xs_cons (xs_set 2 (x_mul (x_var 2) (x_itemV 0 (x_int))) sc.nd) (xs_one (xs_set 3 (x_mul (x_var 3) (x_itemV 0 (x_int))) sc.nd))) (passes_of rfl) rfl) (xs_one (xs_ret (x_tup (xa_cons (x_var 2) (xa_cons (x_var 3) (xa_nil)))))))))
/-! ### _is_less -/
theorem sc__is_less : FnScope ["a", "b"] ["a", "b"] (defScope s__is_less) := ⟨rfl, rfl, rfl, by decide +kernel, rfl, by decide +kernel, by decide +kernel⟩
theorem ok__is_less (e : En K mg) (n : Nat) : FnOk P w K mg base (L2.CX P w) (n + 1) e.a__is_less e.fd__is_less ["a", "b"] (spF K e.cl (f__is_less)) := have sc := sc__is_less; def_okD e.F__is_less sc fun cdv A outer s H E hr => xs_one (xs_ret (x_lt (x_mul (x_itemV 0 (x_int)) (x_itemV 1 (x_int))) (x_mul (x_itemV 1 (x_int)) (x_itemV 0 (x_int)))))
/-! ### below -/
theorem sc_below : FnScope ["a", "b"] ["a", "b"] (defScope s_below) := ⟨rfl, rfl, rfl, by decide +kernel, rfl, by decide +kernel, by decide +kernel⟩
theorem ok_below (e : En K mg) (n : Nat) : FnOk P w K mg base (L2.CX P w) (n + 4) e.a_below e.fd_below ["a", "b"] (spF K e.cl (f_below)) := have sc := sc_below; def_okD e.F_below sc fun cdv A outer s H E hr => xs_cons (xs_drop (x_call (ok__check_all e (n + 0)) hr e.g__check_all e.F__check_all.kp (b__check_all e) (takes_of rfl rfl rfl rfl) (xa_cons (x_tup (xa_cons (x_var 0) (xa_cons (x_var 1) (xa_nil)))) (xa_nil)))) (xs_one (xs_ret (x_call (ok__is_less e (n + 2)) hr e.g__is_less e.F__is_less.kp (b__is_less e) (takes_of rfl rfl rfl rfl) (xa_cons (x_var 0) (xa_cons (x_var 1) (xa_nil))))))
/-! ### _check_not_empty -/
theorem sc__check_not_empty : FnScope ["numbers"] ["numbers"] (defScope s__check_not_empty) := ⟨rfl, rfl, rfl, by decide +kernel, rfl, by decide +kernel, by decide +kernel⟩
theorem ok__check_not_empty (e : En K mg) (n : Nat) : FnOk P w K mg base (L2.CX P w) (n + 4) e.a__check_not_empty e.fd__check_not_empty ["numbers"] (spF K e.cl (f__check_not_empty)) := have sc := sc__check_not_empty; def_okD e.F__check_not_empty sc fun cdv A outer s H E hr => xs_cons (xs_if (xt_eq (Room.u64 hr) (x_b1V 0 call_len cb_len e.n_len (by decide +kernel)) (x_int)) (xs_one (xs_raise 1 e.T_InvalidNumber e.c_InvalidNumber hr rfl (takes_of rfl rfl rfl rfl) (x_var 0))) (xs_nil)) (xs_one (xs_drop (x_call (ok__check_all e (n + 0)) hr e.g__check_all e.F__check_all.kp (b__check_all e) (takes_of rfl rfl rfl rfl) (xa_cons (x_var 0) (xa_nil)))))
/-! ### least -/
theorem sc_least : FnScope ["numbers", "found", "a"] ["numbers"] (defScope s_least) := ⟨rfl, rfl, rfl, by decide +kernel, rfl, by decide +kernel, by decide +kernel⟩
theorem ok_least (e : En K mg) (n : Nat) : FnOk P w K mg base (L2.CX P w) (n + 5) e.a_least e.fd_least ["numbers"] (spF K e.cl (f_least)) := have sc := sc_least; def_okD e.F_least sc fun cdv A outer s H E hr => xs_cons (xs_drop (x_call (ok__check_not_empty e (n + 0)) hr e.g__check_not_empty e.F__check_not_empty.kp (b__check_not_empty e) (takes_of rfl rfl rfl rfl) (xa_cons (x_var 0) (xa_nil)))) (xs_cons (xs_set 1 (x_itemV 0 (x_int)) sc.nd) (xs_cons (xs_for (xi_seq (x_var 0)) (pg_name sc.nd rfl (by first | exact Or.inl rfl | exact Or.inr rfl)) (tg_name) (puts_N) (xs_one (xs_if (xt_val (x_call (ok__is_less e (n + 3)) hr e.g__is_less e.F__is_less.kp (b__is_less e) (takes_of rfl rfl rfl rfl) (xa_cons (x_var 2) (xa_cons (x_var 1) (xa_nil))))) (xs_one (xs_set 1 (x_var 2) sc.nd)) (xs_nil))) (passes_of rfl) rfl) (xs_one (xs_retV 1))))
/-! ### greatest -/
theorem sc_greatest : FnScope ["numbers", "found", "a"] ["numbers"] (defScope s_greatest) := ⟨rfl, rfl, rfl, by decide +kernel, rfl, by decide +kernel, by decide +kernel⟩
theorem ok_greatest (e : En K mg) (n : Nat) : FnOk P w K mg base (L2.CX P w) (n + 5) e.a_greatest e.fd_greatest ["numbers"] (spF K e.cl (f_greatest)) := have sc := sc_greatest; def_okD e.F_greatest sc fun cdv A outer s H E hr => xs_cons (xs_drop (x_call (ok__check_not_empty e (n + 0)) hr e.g__check_not_empty e.F__check_not_empty.kp (b__check_not_empty e) (takes_of rfl rfl rfl rfl) (xa_cons (x_var 0) (xa_nil)))) (xs_cons (xs_set 1 (x_itemV 0 (x_int)) sc.nd) (xs_cons (xs_for (xi_seq (x_var 0)) (pg_name sc.nd rfl (by first | exact Or.inl rfl | exact Or.inr rfl)) (tg_name) (puts_N) (xs_one (xs_if (xt_val (x_call (ok__is_less e (n + 3)) hr e.g__is_less e.F__is_less.kp (b__is_less e) (takes_of rfl rfl rfl rfl) (xa_cons (x_var 1) (xa_cons (x_var 2) (xa_nil))))) (xs_one (xs_set 1 (x_var 2) sc.nd)) (xs_nil))) (passes_of rfl) rfl) (xs_one (xs_retV 1))))
/-! ### total -/
theorem sc_total : FnScope ["numbers", "found", "a"] ["numbers"] (defScope s_total) := ⟨rfl, rfl, rfl, by decide +kernel, rfl, by decide +kernel, by decide +kernel⟩
theorem ok_total (e : En K mg) (n : Nat) : FnOk P w K mg base (L2.CX P w) (n + 4) e.a_total e.fd_total ["numbers"] (spF K e.cl (f_total)) := have sc := sc_total; def_okD e.F_total sc fun cdv A outer s H E hr => xs_cons (xs_drop (x_call (ok__check_all e (n + 0)) hr e.g__check_all e.F__check_all.kp (b__check_all e) (takes_of rfl rfl rfl rfl) (xa_cons (x_var 0) (xa_nil)))) (xs_cons (xs_set 1 (x_glob e.g_ZERO e.r_ZERO e.q_ZERO) sc.nd) (xs_cons (xs_for (xi_seq (x_var 0)) (pg_name sc.nd rfl (by first | exact Or.inl rfl | exact Or.inr rfl)) (tg_name) (puts_N) (xs_one (xs_set 1 (x_call (ok_number e (n + 1)) hr e.g_number e.F_number.kp (b_number e) (takes_of rfl rfl rfl rfl) (xa_cons (x_add (x_mul (x_itemV 1 (x_int)) (x_itemV 2 (x_int))) (x_mul (x_itemV 2 (x_int)) (x_itemV 1 (x_int)))) (xa_cons (x_mul (x_itemV 1 (x_int)) (x_itemV 2 (x_int))) (xa_nil)))) sc.nd)) (passes_of rfl) rfl) (xs_one (xs_retV 1))))
/-! ### _law_deck -/
theorem sc__law_deck : FnScope ["script", "k", "cell", "stir"] ["script", "k"] (defScope s__law_deck) := ⟨rfl, rfl, rfl, by decide +kernel, rfl, by decide +kernel, by decide +kernel⟩
theorem ok__law_deck (e : En K mg) (n : Nat) : FnOk P w K mg base (L2.CX P w) (n + 1) e.a__law_deck e.fd__law_deck ["script", "k"] (spF K e.cl (f__law_deck)) := have sc := sc__law_deck; def_okD e.F__law_deck sc fun cdv A outer s H E hr => xs_cons (xs_set 2 (x_int) sc.nd) (xs_cons (xs_if (xt_lt (x_var 1) (x_b1V 0 call_len cb_len e.n_len (by decide +kernel))) (xs_one (xs_set 2 (x_itemV 0 (x_var 1)) sc.nd)) (xs_nil)) (xs_cons (xs_set 3 (x_mod (x_t1 call_int1 cb_int e.n_int (by decide +kernel) (x_add (x_add (x_var 2) (x_mul (x_int) (x_var 1))) (x_int))) (x_int)) sc.nd) (xs_cons (xs_set 3 (x_mod (x_t1 call_int1 cb_int e.n_int (by decide +kernel) (x_add (x_add (x_mul (x_mul (x_var 3) (x_var 3)) (x_var 3)) (x_mul (x_int) (x_var 1))) (x_int))) (x_int)) sc.nd) (xs_cons (xs_if (xt_lt (x_var 2) (x_pow (x_int) (x_int))) (xs_one (xs_ret (x_lst (xa_cons (x_int) (xa_cons (x_var 3) (xa_nil)))))) (xs_nil)) (xs_one (xs_ret (x_lst (xa_cons (x_sub (x_var 2) (x_pow (x_int) (x_int))) (xa_cons (x_var 3) (xa_nil))))))))))
/-! ### _law_take -/
theorem sc__law_take : FnScope ["deck", "many", "taken"] ["deck", "many"] (defScope s__law_take) := ⟨rfl, rfl, rfl, by decide +kernel, rfl, by decide +kernel, by decide +kernel⟩
theorem ok__law_take (e : En K mg) (n : Nat) : FnOk P w K mg base (L2.CX P w) (n + 1) e.a__law_take e.fd__law_take ["deck", "many"] (spF K e.cl (f__law_take)) := have sc := sc__law_take; def_okD e.F__law_take sc fun cdv A outer s H E hr => xs_cons (xs_if (xt_gt (x_itemV 0 (x_int)) (x_int)) (xs_cons (xs_set 2 (x_mod (x_t1 call_int1 cb_int e.n_int (by decide +kernel) (x_itemV 0 (x_int))) (x_var 1)) sc.nd) (xs_cons (xs_item 0 (x_div (x_itemV 0 (x_int)) (x_var 1)) (x_int)) (xs_one (xs_retV 2)))) (xs_nil)) (xs_cons (xs_item 0 (x_mod (x_t1 call_int1 cb_int e.n_int (by decide +kernel) (x_add (x_mul (x_itemV 0 (x_int)) (x_int)) (x_int))) (x_pow (x_int) (x_int))) (x_int)) (xs_one (xs_ret (x_mod (x_div (x_itemV 0 (x_int)) (x_pow (x_int) (x_int))) (x_var 1)))))
/-! ### _law_gcd -/
theorem sc__law_gcd : FnScope ["u", "v"] ["u", "v"] (defScope s__law_gcd) := ⟨rfl, rfl, rfl, by decide +kernel, rfl, by decide +kernel, by decide +kernel⟩
theorem ok__law_gcd (e : En K mg) (n : Nat) : FnOk P w K mg base (L2.CX P w) (n + 1) e.a__law_gcd e.fd__law_gcd ["u", "v"] (spF K e.cl (f__law_gcd)) := have sc := sc__law_gcd; def_okD e.F__law_gcd sc fun cdv A outer s H E hr => xs_cons (xs_while (xt_neV 1 (Room.u64 hr) (x_int)) (xs_one (xs_par 0 1 (xa_cons (x_var 1) (xa_cons (x_mod (x_t1V 0 call_int1 cb_int e.n_int (by decide +kernel)) (x_var 1)) (xa_nil))) rfl sc.nd)) (passes_of rfl)) (xs_one (xs_retV 0))
/-! ### _law_pair -/
theorem sc__law_pair : FnScope ["upper", "lower", "common"] ["upper", "lower"] (defScope s__law_pair) := ⟨rfl, rfl, rfl, by decide +kernel, rfl, by decide +kernel, by decide +kernel⟩
theorem ok__law_pair (e : En K mg) (n : Nat) : FnOk P w K mg base (L2.CX P w) (n + 2) e.a__law_pair e.fd__law_pair ["upper", "lower"] (spF K e.cl (f__law_pair)) := have sc := sc__law_pair; def_okD e.F__law_pair sc fun cdv A outer s H E hr => xs_cons (xs_set 2 (x_call (ok__law_gcd e (n + 0)) hr e.g__law_gcd e.F__law_gcd.kp (b__law_gcd e) (takes_of rfl rfl rfl rfl) (xa_cons (x_b1V 0 call_abs cb_abs e.n_abs (by decide +kernel)) (xa_cons (x_b1V 1 call_abs cb_abs e.n_abs (by decide +kernel)) (xa_nil)))) sc.nd) (xs_cons (xs_if (xt_lt (x_var 1) (x_int)) (xs_one (xs_set 2 (x_neg (x_var 2)) sc.nd)) (xs_nil)) (xs_one (xs_ret (x_tup (xa_cons (x_div (x_var 0) (x_var 2)) (xa_cons (x_div (x_var 1) (x_var 2)) (xa_nil)))))))
/-! ### _law_plus -/
theorem sc__law_plus : FnScope ["u", "v"] ["u", "v"] (defScope s__law_plus) := ⟨rfl, rfl, rfl, by decide +kernel, rfl, by decide +kernel, by decide +kernel⟩
theorem ok__law_plus (e : En K mg) (n : Nat) : FnOk P w K mg base (L2.CX P w) (n + 3) e.a__law_plus e.fd__law_plus ["u", "v"] (spF K e.cl (f__law_plus)) := have sc := sc__law_plus; def_okD e.F__law_plus sc fun cdv A outer s H E hr => xs_one (xs_ret (x_call (ok__law_pair e (n + 0)) hr e.g__law_pair e.F__law_pair.kp (b__law_pair e) (takes_of rfl rfl rfl rfl) (xa_cons (x_add (x_mul (x_itemV 0 (x_int)) (x_itemV 1 (x_int))) (x_mul (x_itemV 1 (x_int)) (x_itemV 0 (x_int)))) (xa_cons (x_mul (x_itemV 0 (x_int)) (x_itemV 1 (x_int))) (xa_nil)))))
/-! ### _law_times -/
theorem sc__law_times : FnScope ["u", "v"] ["u", "v"] (defScope s__law_times) := ⟨rfl, rfl, rfl, by decide +kernel, rfl, by decide +kernel, by decide +kernel⟩
theorem ok__law_times (e : En K mg) (n : Nat) : FnOk P w K mg base (L2.CX P w) (n + 3) e.a__law_times e.fd__law_times ["u", "v"] (spF K e.cl (f__law_times)) := have sc := sc__law_times; def_okD e.F__law_times sc fun cdv A outer s H E hr => xs_one (xs_ret (x_call (ok__law_pair e (n + 0)) hr e.g__law_pair e.F__law_pair.kp (b__law_pair e) (takes_of rfl rfl rfl rfl) (xa_cons (x_mul (x_itemV 0 (x_int)) (x_itemV 1 (x_int))) (xa_cons (x_mul (x_itemV 0 (x_int)) (x_itemV 1 (x_int))) (xa_nil)))))
/-! ### _law_less -/
theorem sc__law_less : FnScope ["u", "v"] ["u", "v"] (defScope s__law_less) := ⟨rfl, rfl, rfl, by decide +kernel, rfl, by decide +kernel, by decide +kernel⟩
theorem ok__law_less (e : En K mg) (n : Nat) : FnOk P w K mg base (L2.CX P w) (n + 1) e.a__law_less e.fd__law_less ["u", "v"] (spF K e.cl (f__law_less)) := have sc := sc__law_less; def_okD e.F__law_less sc fun cdv A outer s H E hr => xs_one (xs_ret (x_lt (x_sub (x_mul (x_itemV 0 (x_int)) (x_itemV 1 (x_int))) (x_mul (x_itemV 1 (x_int)) (x_itemV 0 (x_int)))) (x_int)))
/-! ### _law_same -/
theorem sc__law_same : FnScope ["found", "due", "k"] ["found", "due"] (defScope s__law_same) := ⟨rfl, rfl, rfl, by decide +kernel, rfl, by decide +kernel, by decide +kernel⟩
theorem ok__law_same (e : En K mg) (n : Nat) : ∀ j, FnOk P w K mg base (L2.CX P w) (n + 1 + j) e.a__law_same e.fd__law_same ["found", "due"] (spF K e.cl (f__law_same j))
  | 0 => fn_no
  | j + 1 => have ih := ok__law_same e n j; have sc := sc__law_same; def_okD e.F__law_same sc fun cdv A outer s H E hr => xs_cons (xs_if (xt_val (x_isi2V 1 .tuple .list (bltn_ty (T := .tuple) e.n_tuple (by decide +kernel)) (bltn_ty (T := .list) e.n_list (by decide +kernel)) e.n_isinstance)) (xs_cons (xs_if (PW.pt (xw_or (xt_ne (Room.u64 hr) (x_isi1V 0 .tuple (bltn_ty (T := .tuple) e.n_tuple (by decide +kernel)) e.n_isinstance) (x_isi1V 1 .tuple (bltn_ty (T := .tuple) e.n_tuple (by decide +kernel)) e.n_isinstance)) (xw_one (xt_ne (Room.u64 hr) (x_isi1V 0 .list (bltn_ty (T := .list) e.n_list (by decide +kernel)) e.n_isinstance) (x_isi1V 1 .list (bltn_ty (T := .list) e.n_list (by decide +kernel)) e.n_isinstance))))) (xs_one (xs_ret (x_bl))) (xs_nil)) (xs_cons (xs_if (xt_ne (Room.u64 hr) (x_b1V 0 call_len cb_len e.n_len (by decide +kernel)) (x_b1V 1 call_len cb_len e.n_len (by decide +kernel))) (xs_one (xs_ret (x_bl))) (xs_nil)) (xs_one (xs_ret (x_eq (Room.u64 hr) (x_lcIf (own := [("k", 2)]) rfl sc.nd (xi_rng e.n_range (x_b1V 1 call_len cb_len e.n_len (by decide +kernel))) (blkOk_by (N := ["found", "due", "k"]) (sc := defScope s__law_same) (by decide +kernel)) (gw_name (by decide)) (tg_name) (putO_name) (fun _ _ _ _ _ => pg_name sc.nd rfl (by first | exact Or.inl rfl | exact Or.inr rfl)) (fun _ _ _ _ _ => xt_not (xt_val (x_call ih hr e.g__law_same e.F__law_same.kp (b__law_same e) takes0 (xa_cons (x_itemV 0 (x_var 2)) (xa_cons (x_itemV 1 (x_var 2)) (xa_nil)))))) (fun _ _ _ _ _ => x_var 2)) (x_lst (xa_nil))))))) (xs_nil)) (xs_cons (xs_if (xt_is (x_var 1) (x_non)) (xs_one (xs_ret (x_is (x_var 0) (x_non)))) (xs_nil)) (xs_cons (xs_if (xt_val (x_isi1V 1 .str (bltn_ty (T := .str) e.n_str (by decide +kernel)) e.n_isinstance)) (xs_one (xs_ret (x_and (x_isi1V 0 .str (bltn_ty (T := .str) e.n_str (by decide +kernel)) e.n_isinstance) (x_one (x_eqV 0 (Room.u64 hr) (x_var 1)))))) (xs_nil)) (xs_cons (xs_if (PW.pt (xw_or (xt_val (x_isi1V 1 .bool (bltn_ty (T := .bool) e.n_bool (by decide +kernel)) e.n_isinstance)) (xw_one (xt_val (x_isi1V 0 .bool (bltn_ty (T := .bool) e.n_bool (by decide +kernel)) e.n_isinstance))))) (xs_one (xs_ret (x_and (x_isi1V 1 .bool (bltn_ty (T := .bool) e.n_bool (by decide +kernel)) e.n_isinstance) (x_and (x_isi1V 0 .bool (bltn_ty (T := .bool) e.n_bool (by decide +kernel)) e.n_isinstance) (x_one (x_eqV 0 (Room.u64 hr) (x_var 1))))))) (xs_nil)) (xs_one (xs_ret (x_and (x_isi1V 0 .int (bltn_ty (T := .int) e.n_int (by decide +kernel)) e.n_isinstance) (x_one (x_eqV 0 (Room.u64 hr) (x_var 1)))))))))
/-! ### _law_integer -/
theorem sc__law_integer : FnScope ["deck", "few", "base", "value"] ["deck"] (defScope s__law_integer) := ⟨rfl, rfl, rfl, by decide +kernel, rfl, by decide +kernel, by decide +kernel⟩
theorem ok__law_integer (e : En K mg) (n : Nat) : FnOk P w K mg base (L2.CX P w) (n + 2) e.a__law_integer e.fd__law_integer ["deck"] (spF K e.cl (f__law_integer)) := have sc := sc__law_integer; def_okD e.F__law_integer sc fun cdv A outer s H E hr => xs_cons (xs_set 1 (x_callA (ok__law_take e (n + 0)) hr e.g__law_take e.F__law_take.kp (b__law_take e) (takes_of rfl rfl rfl rfl) (xg_io 0 (xg_v (x_pow (x_int) (x_int)) (xg_end)))) sc.nd) (xs_cons (xs_set 2 (x_add (x_int) (x_callA (ok__law_take e (n + 0)) hr e.g__law_take e.F__law_take.kp (b__law_take e) (takes_of rfl rfl rfl rfl) (xg_io 0 (xg_v (x_pow (x_int) (x_int)) (xg_end))))) sc.nd) (xs_cons (xs_set 3 (x_item (x_lst (xa_cons (x_int) (xa_cons (x_var 1) (xa_cons (x_div (x_var 1) (x_pow (x_int) (x_int))) (xa_cons (x_pow (x_var 2) (x_int)) (xa_cons (x_add (x_pow (x_var 2) (x_int)) (x_var 1)) (xa_cons (x_int) (xa_cons (x_int) (xa_nil))))))))) (x_callA (ok__law_take e (n + 0)) hr e.g__law_take e.F__law_take.kp (b__law_take e) (takes_of rfl rfl rfl rfl) (xg_io 0 (xg_v (x_int) (xg_end))))) sc.nd) (xs_one (xs_ret (x_item (x_lst (xa_cons (x_var 3) (xa_cons (x_neg (x_var 3)) (xa_nil)))) (x_callA (ok__law_take e (n + 0)) hr e.g__law_take e.F__law_take.kp (b__law_take e) (takes_of rfl rfl rfl rfl) (xg_io 0 (xg_v (x_int) (xg_end)))))))))
/-! ### _law_couple -/
theorem sc__law_couple : FnScope ["deck", "upper", "lower", "way", "more"] ["deck"] (defScope s__law_couple) := ⟨rfl, rfl, rfl, by decide +kernel, rfl, by decide +kernel, by decide +kernel⟩
theorem ok__law_couple (e : En K mg) (n : Nat) : FnOk P w K mg base (L2.CX P w) (n + 3) e.a__law_couple e.fd__law_couple ["deck"] (spF K e.cl (f__law_couple)) := have sc := sc__law_couple; def_okD e.F__law_couple sc fun cdv A outer s H E hr => xs_cons (xs_par 1 2 (xa_cons (x_callA (ok__law_integer e (n + 0)) hr e.g__law_integer e.F__law_integer.kp (b__law_integer e) (takes_of rfl rfl rfl rfl) (xg_io 0 (xg_end))) (xa_cons (x_callA (ok__law_integer e (n + 0)) hr e.g__law_integer e.F__law_integer.kp (b__law_integer e) (takes_of rfl rfl rfl rfl) (xg_io 0 (xg_end))) (xa_nil))) rfl sc.nd) (xs_cons (xs_set 3 (x_callA (ok__law_take e (n + 1)) hr e.g__law_take e.F__law_take.kp (b__law_take e) (takes_of rfl rfl rfl rfl) (xg_io 0 (xg_v (x_int) (xg_end)))) sc.nd) (xs_cons (xs_if (PW.pt (xw_or (xt_eqV 3 (Room.u64 hr) (x_int)) (xw_one (xt_eqV 2 (Room.u64 hr) (x_int))))) (xs_one (xs_ret (x_tup (xa_cons (x_var 1) (xa_cons (x_var 2) (xa_nil)))))) (xs_nil)) (xs_cons (xs_if (xt_eqV 3 (Room.u64 hr) (x_int)) (xs_cons (xs_set 4 (x_add (x_int) (x_callA (ok__law_take e (n + 1)) hr e.g__law_take e.F__law_take.kp (b__law_take e) (takes_of rfl rfl rfl rfl) (xg_io 0 (xg_v (x_int) (xg_end))))) sc.nd) (xs_one (xs_ret (x_tup (xa_cons (x_mul (x_var 1) (x_var 4)) (xa_cons (x_mul (x_b1V 2 call_abs cb_abs e.n_abs (by decide +kernel)) (x_var 4)) (xa_nil))))))) (xs_nil)) (xs_one (xs_ret (x_call (ok__law_pair e (n + 0)) hr e.g__law_pair e.F__law_pair.kp (b__law_pair e) (takes_of rfl rfl rfl rfl) (xa_cons (x_var 1) (xa_cons (x_var 2) (xa_nil)))))))))
/-! ### _law_own -/
theorem sc__law_own : FnScope ["deck", "upper", "lower"] ["deck"] (defScope s__law_own) := ⟨rfl, rfl, rfl, by decide +kernel, rfl, by decide +kernel, by decide +kernel⟩
theorem ok__law_own (e : En K mg) (n : Nat) : FnOk P w K mg base (L2.CX P w) (n + 3) e.a__law_own e.fd__law_own ["deck"] (spF K e.cl (f__law_own)) := have sc := sc__law_own; def_okD e.F__law_own sc fun cdv A outer s H E hr => xs_cons (xs_par 1 2 (xa_cons (x_callA (ok__law_integer e (n + 0)) hr e.g__law_integer e.F__law_integer.kp (b__law_integer e) (takes_of rfl rfl rfl rfl) (xg_io 0 (xg_end))) (xa_cons (x_callA (ok__law_integer e (n + 0)) hr e.g__law_integer e.F__law_integer.kp (b__law_integer e) (takes_of rfl rfl rfl rfl) (xg_io 0 (xg_end))) (xa_nil))) rfl sc.nd) (xs_one (xs_ret (x_call (ok__law_pair e (n + 0)) hr e.g__law_pair e.F__law_pair.kp (b__law_pair e) (takes_of rfl rfl rfl rfl) (xa_cons (x_var 1) (xa_cons (x_add (x_var 2) (x_t1 call_int1 cb_int e.n_int (by decide +kernel) (x_eqV 2 (Room.u64 hr) (x_int)))) (xa_nil))))))
/-! ### _law_small -/
theorem sc__law_small : FnScope ["deck"] ["deck"] (defScope s__law_small) := ⟨rfl, rfl, rfl, by decide +kernel, rfl, by decide +kernel, by decide +kernel⟩
theorem ok__law_small (e : En K mg) (n : Nat) : FnOk P w K mg base (L2.CX P w) (n + 3) e.a__law_small e.fd__law_small ["deck"] (spF K e.cl (f__law_small)) := have sc := sc__law_small; def_okD e.F__law_small sc fun cdv A outer s H E hr => xs_one (xs_ret (x_call (ok__law_pair e (n + 0)) hr e.g__law_pair e.F__law_pair.kp (b__law_pair e) (takes_of rfl rfl rfl rfl) (xa_cons (x_sub (x_callA (ok__law_take e (n + 1)) hr e.g__law_take e.F__law_take.kp (b__law_take e) (takes_of rfl rfl rfl rfl) (xg_io 0 (xg_v (x_int) (xg_end)))) (x_int)) (xa_cons (x_add (x_int) (x_callA (ok__law_take e (n + 1)) hr e.g__law_take e.F__law_take.kp (b__law_take e) (takes_of rfl rfl rfl rfl) (xg_io 0 (xg_v (x_int) (xg_end))))) (xa_nil)))))
/-! ### _law_is -/
theorem sc__law_is : FnScope ["pair"] ["pair"] (defScope s__law_is) := ⟨rfl, rfl, rfl, by decide +kernel, rfl, by decide +kernel, by decide +kernel⟩
theorem ok__law_is (e : En K mg) (n : Nat) : FnOk P w K mg base (L2.CX P w) (n + 2) e.a__law_is e.fd__law_is ["pair"] (spF K e.cl (f__law_is)) := have sc := sc__law_is; def_okD e.F__law_is sc fun cdv A outer s H E hr => xs_one (xs_ret (x_and (x_gt (x_itemV 0 (x_int)) (x_int)) (x_one (x_eq (Room.u64 hr) (x_call (ok__law_gcd e (n + 0)) hr e.g__law_gcd e.F__law_gcd.kp (b__law_gcd e) (takes_of rfl rfl rfl rfl) (xa_cons (x_b1 call_abs cb_abs e.n_abs (by decide +kernel) (x_itemV 0 (x_int))) (xa_cons (x_itemV 0 (x_int)) (xa_nil)))) (x_int)))))
/-! ### _law_divided -/
theorem sc__law_divided : FnScope ["door", "u", "named", "answer", "e"] ["door", "u", "named"] (defScope s__law_divided) := ⟨rfl, rfl, rfl, by decide +kernel, rfl, by decide +kernel, by decide +kernel⟩
theorem ok__law_divided (e : En K mg) (n : Nat) : FnOk P w K mg base (L2.CX P w) (n + 5) e.a__law_divided e.fd__law_divided ["door", "u", "named"] (spF K e.cl (f__law_divided e.cl)) := have sc := sc__law_divided; def_okD e.F__law_divided sc fun cdv A outer s H E hr => xs_cons (xs_set 3 (x_lst (xa_cons (x_str) (xa_cons (x_non) (xa_nil)))) sc.nd) (xs_cons (xs_try e.EK (takes_of rfl rfl rfl rfl) sc.nd (fun _ _ _ tk ps => xs_one (xs_if (xt_eqV 0 (Room.u64 hr) (x_int)) (xs_one (xs_set 3 (x_lst (xa_cons (x_str) (xa_cons (x_if (xt_val (x_var 2)) (x_callK0 (ok_number e (n + 2)) hr e.g_number e.F_number.kp (kb_number_0_bottom_top e) tk (xk_cons (x_int) (xk_cons (x_itemV 1 (x_int)) (xk_nil)))) (x_call (ok_number e (n + 2)) hr e.g_number e.F_number.kp (b_number e) tk (xa_cons (x_itemV 1 (x_int)) (xa_cons (x_int) (xa_nil))))) (xa_nil)))) sc.nd)) (xs_one (xs_set 3 (x_lst (xa_cons (x_str) (xa_cons (x_if (xt_val (x_var 2)) (x_callK0 (ok_by e (n + 0)) hr e.g_by e.F_by.kp (kb_by_0_b_a e) tk (xk_cons (x_tup (xa_cons (x_int) (xa_cons (x_int) (xa_nil)))) (xk_cons (x_var 1) (xk_nil)))) (x_call (ok_by e (n + 0)) hr e.g_by e.F_by.kp (b_by e) tk (xa_cons (x_var 1) (xa_cons (x_tup (xa_cons (x_int) (xa_cons (x_int) (xa_nil)))) (xa_nil))))) (xa_nil)))) sc.nd)))) (ClT.named (by decide) (names_g e.c_InvalidNumber) rfl rfl (fun _ _ => xs_one (xs_set 3 (x_lst (xa_cons (x_str) (xa_cons (x_val (x_var 4)) (xa_nil)))) sc.nd)) (ClT.named (by decide) (names_g e.c_DividedByZero) rfl rfl (fun _ _ => xs_one (xs_set 3 (x_lst (xa_cons (x_str) (xa_cons (x_val (x_var 4)) (xa_nil)))) sc.nd)) (ClT.nil)))) (xs_one (xs_retV 3)))
/-! ### _law_two_right -/
theorem sc__law_two_right : FnScope ["u", "v", "opposite"] ["u", "v"] (defScope s__law_two_right) := ⟨rfl, rfl, rfl, by decide +kernel, rfl, by decide +kernel, by decide +kernel⟩
theorem ok__law_two_right (e : En K mg) (n : Nat) : FnOk P w K mg base (L2.CX P w) (n + 10) e.a__law_two_right e.fd__law_two_right ["u", "v"] (spF K e.cl (f__law_two_right)) := have sc := sc__law_two_right; def_okD e.F__law_two_right sc fun cdv A outer s H E hr => xs_cons (xs_set 2 (x_tup (xa_cons (x_neg (x_itemV 1 (x_int))) (xa_cons (x_itemV 1 (x_int)) (xa_nil)))) sc.nd) (xs_cons (xs_if (xt_not (xt_val (x_call (ok__law_same e (n + 0) 8) hr e.g__law_same e.F__law_same.kp (b__law_same e) (takes_of rfl rfl rfl rfl) (xa_cons (x_lst (xa_cons (x_call (ok_plus e (n + 5)) hr e.g_plus e.F_plus.kp (b_plus e) (takes_of rfl rfl rfl rfl) (xa_cons (x_var 0) (xa_cons (x_var 1) (xa_nil)))) (xa_cons (x_callK0 (ok_plus e (n + 5)) hr e.g_plus e.F_plus.kp (kb_plus_0_b_a e) (takes_of rfl rfl rfl rfl) (xk_cons (x_var 1) (xk_cons (x_var 0) (xk_nil)))) (xa_nil)))) (xa_cons (x_mul (x_lst (xa_cons (x_call (ok__law_plus e (n + 6)) hr e.g__law_plus e.F__law_plus.kp (b__law_plus e) (takes_of rfl rfl rfl rfl) (xa_cons (x_var 0) (xa_cons (x_var 1) (xa_nil)))) (xa_nil))) (x_int)) (xa_nil)))))) (xs_one (xs_ret (x_bl))) (xs_nil)) (xs_cons (xs_if (xt_not (xt_val (x_call (ok__law_same e (n + 0) 8) hr e.g__law_same e.F__law_same.kp (b__law_same e) (takes_of rfl rfl rfl rfl) (xa_cons (x_lst (xa_cons (x_call (ok_minus e (n + 5)) hr e.g_minus e.F_minus.kp (b_minus e) (takes_of rfl rfl rfl rfl) (xa_cons (x_var 0) (xa_cons (x_var 1) (xa_nil)))) (xa_cons (x_callK0 (ok_minus e (n + 5)) hr e.g_minus e.F_minus.kp (kb_minus_0_b_a e) (takes_of rfl rfl rfl rfl) (xk_cons (x_var 1) (xk_cons (x_var 0) (xk_nil)))) (xa_nil)))) (xa_cons (x_mul (x_lst (xa_cons (x_call (ok__law_plus e (n + 6)) hr e.g__law_plus e.F__law_plus.kp (b__law_plus e) (takes_of rfl rfl rfl rfl) (xa_cons (x_var 0) (xa_cons (x_var 2) (xa_nil)))) (xa_nil))) (x_int)) (xa_nil)))))) (xs_one (xs_ret (x_bl))) (xs_nil)) (xs_cons (xs_if (xt_not (xt_val (x_call (ok__law_same e (n + 0) 8) hr e.g__law_same e.F__law_same.kp (b__law_same e) (takes_of rfl rfl rfl rfl) (xa_cons (x_lst (xa_cons (x_call (ok_times e (n + 5)) hr e.g_times e.F_times.kp (b_times e) (takes_of rfl rfl rfl rfl) (xa_cons (x_var 0) (xa_cons (x_var 1) (xa_nil)))) (xa_cons (x_callK0 (ok_times e (n + 5)) hr e.g_times e.F_times.kp (kb_times_0_b_a e) (takes_of rfl rfl rfl rfl) (xk_cons (x_var 1) (xk_cons (x_var 0) (xk_nil)))) (xa_nil)))) (xa_cons (x_mul (x_lst (xa_cons (x_call (ok__law_times e (n + 6)) hr e.g__law_times e.F__law_times.kp (b__law_times e) (takes_of rfl rfl rfl rfl) (xa_cons (x_var 0) (xa_cons (x_var 1) (xa_nil)))) (xa_nil))) (x_int)) (xa_nil)))))) (xs_one (xs_ret (x_bl))) (xs_nil)) (xs_cons (xs_if (PW.pt (xw_and (xt_ne (Room.u64 hr) (x_itemV 1 (x_int)) (x_int)) (xw_one (xt_not (xt_val (x_call (ok__law_same e (n + 0) 8) hr e.g__law_same e.F__law_same.kp (b__law_same e) (takes_of rfl rfl rfl rfl) (xa_cons (x_lst (xa_cons (x_call (ok_by e (n + 5)) hr e.g_by e.F_by.kp (b_by e) (takes_of rfl rfl rfl rfl) (xa_cons (x_var 0) (xa_cons (x_var 1) (xa_nil)))) (xa_cons (x_callK0 (ok_by e (n + 5)) hr e.g_by e.F_by.kp (kb_by_0_b_a e) (takes_of rfl rfl rfl rfl) (xk_cons (x_var 1) (xk_cons (x_var 0) (xk_nil)))) (xa_nil)))) (xa_cons (x_mul (x_lst (xa_cons (x_call (ok__law_pair e (n + 7)) hr e.g__law_pair e.F__law_pair.kp (b__law_pair e) (takes_of rfl rfl rfl rfl) (xa_cons (x_mul (x_itemV 0 (x_int)) (x_itemV 1 (x_int))) (xa_cons (x_mul (x_itemV 0 (x_int)) (x_itemV 1 (x_int))) (xa_nil)))) (xa_nil))) (x_int)) (xa_nil))))))))) (xs_one (xs_ret (x_bl))) (xs_nil)) (xs_one (xs_ret (x_call (ok__law_same e (n + 0) 8) hr e.g__law_same e.F__law_same.kp (b__law_same e) (takes_of rfl rfl rfl rfl) (xa_cons (x_lst (xa_cons (x_call (ok_below e (n + 5)) hr e.g_below e.F_below.kp (b_below e) (takes_of rfl rfl rfl rfl) (xa_cons (x_var 0) (xa_cons (x_var 1) (xa_nil)))) (xa_cons (x_callK0 (ok_below e (n + 5)) hr e.g_below e.F_below.kp (kb_below_0_b_a e) (takes_of rfl rfl rfl rfl) (xk_cons (x_var 1) (xk_cons (x_var 0) (xk_nil)))) (xa_cons (x_call (ok_below e (n + 5)) hr e.g_below e.F_below.kp (b_below e) (takes_of rfl rfl rfl rfl) (xa_cons (x_var 0) (xa_cons (x_var 0) (xa_nil)))) (xa_nil))))) (xa_cons (x_add (x_mul (x_lst (xa_cons (x_call (ok__law_less e (n + 8)) hr e.g__law_less e.F__law_less.kp (b__law_less e) (takes_of rfl rfl rfl rfl) (xa_cons (x_var 0) (xa_cons (x_var 1) (xa_nil)))) (xa_nil))) (x_int)) (x_lst (xa_cons (x_bl) (xa_nil)))) (xa_nil))))))))))
/-! ### _law_power_right -/
theorem sc__law_power_right : FnScope ["u", "many", "due", "k"] ["u", "many"] (defScope s__law_power_right) := ⟨rfl, rfl, rfl, by decide +kernel, rfl, by decide +kernel, by decide +kernel⟩
theorem ok__law_power_right (e : En K mg) (n : Nat) : FnOk P w K mg base (L2.CX P w) (n + 10) e.a__law_power_right e.fd__law_power_right ["u", "many"] (spF K e.cl (f__law_power_right)) := have sc := sc__law_power_right; def_okD e.F__law_power_right sc fun cdv A outer s H E hr => xs_cons (xs_set 2 (x_tup (xa_cons (x_int) (xa_cons (x_int) (xa_nil)))) sc.nd) (xs_cons (xs_for (xi_rng e.n_range (x_var 1)) (pg_name sc.nd rfl (by first | exact Or.inl rfl | exact Or.inr rfl)) (tg_name) (puts_N) (xs_one (xs_set 2 (x_call (ok__law_times e (n + 6)) hr e.g__law_times e.F__law_times.kp (b__law_times e) (takes_of rfl rfl rfl rfl) (xa_cons (x_var 2) (xa_cons (x_var 0) (xa_nil)))) sc.nd)) (passes_of rfl) rfl) (xs_one (xs_ret (x_call (ok__law_same e (n + 0) 8) hr e.g__law_same e.F__law_same.kp (b__law_same e) (takes_of rfl rfl rfl rfl) (xa_cons (x_lst (xa_cons (x_call (ok_power e (n + 5)) hr e.g_power e.F_power.kp (b_power e) (takes_of rfl rfl rfl rfl) (xa_cons (x_var 0) (xa_cons (x_var 1) (xa_nil)))) (xa_cons (x_callK0 (ok_power e (n + 5)) hr e.g_power e.F_power.kp (kb_power_0_n_a e) (takes_of rfl rfl rfl rfl) (xk_cons (x_var 1) (xk_cons (x_var 0) (xk_nil)))) (xa_nil)))) (xa_cons (x_lst (xa_cons (x_var 2) (xa_cons (x_var 2) (xa_nil)))) (xa_nil)))))))
/-! ### _law_row_right -/
theorem sc__law_row_right : FnScope ["deck", "row", "kept", "due", "u", "given", "low", "high"] ["deck", "row"] (defScope s__law_row_right) := ⟨rfl, rfl, rfl, by decide +kernel, rfl, by decide +kernel, by decide +kernel⟩
theorem ok__law_row_right (e : En K mg) (n : Nat) : FnG P w K mg base (L2.CX P w) (n + 10) e.a__law_row_right e.fd__law_row_right ["deck", "row"] (spF K e.cl (f__law_row_right)) := have sc := sc__law_row_right; def_okG e.F__law_row_right sc fun cdv A outer s H E gd hr => xs_cons (xs_par 2 3 (xa_cons (x_b1V 1 (call_repr gd (Room.u64 hr)) cb_repr e.n_repr (by decide +kernel)) (xa_cons (x_tup (xa_cons (x_int) (xa_cons (x_int) (xa_nil)))) (xa_nil))) rfl sc.nd) (xs_cons (xs_for (xi_seq (x_var 1)) (pg_name sc.nd rfl (by first | exact Or.inl rfl | exact Or.inr rfl)) (tg_name) (puts_N) (xs_one (xs_set 3 (x_call (ok__law_plus e (n + 6)) hr e.g__law_plus e.F__law_plus.kp (b__law_plus e) (takes_of rfl rfl rfl rfl) (xa_cons (x_var 3) (xa_cons (x_var 4) (xa_nil)))) sc.nd)) (passes_of rfl) rfl) (xs_cons (xs_set 5 (x_item (x_lst (xa_cons (x_var 1) (xa_cons (x_t1V 1 call_tuple_of cb_tuple e.n_tuple (by decide +kernel)) (xa_nil)))) (x_callA (ok__law_take e (n + 8)) hr e.g__law_take e.F__law_take.kp (b__law_take e) (takes_of rfl rfl rfl rfl) (xg_io 0 (xg_v (x_int) (xg_end))))) sc.nd) (xs_cons (xs_if (xt_not (xt_val (x_call (ok__law_same e (n + 0) 8) hr e.g__law_same e.F__law_same.kp (b__law_same e) (takes_of rfl rfl rfl rfl) (xa_cons (x_lst (xa_cons (x_call (ok_total e (n + 5)) hr e.g_total e.F_total.kp (b_total e) (takes_of rfl rfl rfl rfl) (xa_cons (x_var 5) (xa_nil))) (xa_cons (x_callK0 (ok_total e (n + 5)) hr e.g_total e.F_total.kp (kb_total_0_numbers e) (takes_of rfl rfl rfl rfl) (xk_cons (x_var 5) (xk_nil))) (xa_nil)))) (xa_cons (x_lst (xa_cons (x_var 3) (xa_cons (x_var 3) (xa_nil)))) (xa_nil)))))) (xs_one (xs_ret (x_bl))) (xs_nil)) (xs_cons (xs_if (xt_neV 1 (Room.u64 hr) (x_lst (xa_nil))) (xs_cons (xs_unp [6, 7] (x_tup (xa_cons (x_call (ok_least e (n + 4)) hr e.g_least e.F_least.kp (b_least e) (takes_of rfl rfl rfl rfl) (xa_cons (x_var 5) (xa_nil))) (xa_cons (x_call (ok_greatest e (n + 4)) hr e.g_greatest e.F_greatest.kp (b_greatest e) (takes_of rfl rfl rfl rfl) (xa_cons (x_var 5) (xa_nil))) (xa_nil)))) (xg_cons 6 (xg_cons 7 (xg_nil) sc.nd) sc.nd) rfl) (xs_cons (xs_if (PW.pt (xw_or (xt_nin (Room.u65 hr) (x_var 6) (x_var 1)) (xw_or (xt_nin (Room.u65 hr) (x_var 7) (x_var 1)) (xw_one (xt_not (xt_val (x_call (ok__law_same e (n + 0) 8) hr e.g__law_same e.F__law_same.kp (b__law_same e) (takes_of rfl rfl rfl rfl) (xa_cons (x_lst (xa_cons (x_callK0 (ok_least e (n + 4)) hr e.g_least e.F_least.kp (kb_least_0_numbers e) (takes_of rfl rfl rfl rfl) (xk_cons (x_var 5) (xk_nil))) (xa_cons (x_callK0 (ok_greatest e (n + 4)) hr e.g_greatest e.F_greatest.kp (kb_greatest_0_numbers e) (takes_of rfl rfl rfl rfl) (xk_cons (x_var 5) (xk_nil))) (xa_nil)))) (xa_cons (x_lst (xa_cons (x_var 6) (xa_cons (x_var 7) (xa_nil)))) (xa_nil)))))))))) (xs_one (xs_ret (x_bl))) (xs_nil)) (xs_cons (xs_if (xt_ne (Room.u64 hr) (x_lcIf (own := [("u", 4)]) rfl sc.nd (xi_seq (x_var 1)) (blkOk_by (N := ["deck", "row", "kept", "due", "u", "given", "low", "high"]) (sc := defScope s__law_row_right) (by decide +kernel)) (gw_name (by decide)) (tg_name) (putO_name) (fun _ _ _ _ _ => pg_name sc.nd rfl (by first | exact Or.inl rfl | exact Or.inr rfl)) (fun _ _ _ _ _ => PW.pt (xw_or (xt_val (x_call (ok__law_less e (n + 8)) hr e.g__law_less e.F__law_less.kp (b__law_less e) takes0 (xa_cons (x_var 4) (xa_cons (x_var 6) (xa_nil))))) (xw_one (xt_val (x_call (ok__law_less e (n + 8)) hr e.g__law_less e.F__law_less.kp (b__law_less e) takes0 (xa_cons (x_var 7) (xa_cons (x_var 4) (xa_nil)))))))) (fun _ _ _ _ _ => x_var 4)) (x_lst (xa_nil))) (xs_one (xs_ret (x_bl))) (xs_nil)) (xs_one (xs_if (xt_not (xt_val (x_call (ok__law_same e (n + 0) 8) hr e.g__law_same e.F__law_same.kp (b__law_same e) (takes_of rfl rfl rfl rfl) (xa_cons (x_lst (xa_cons (x_var 6) (xa_cons (x_var 7) (xa_nil)))) (xa_cons (x_lst (xa_cons (x_itemV 1 (x_indexV 1 (Room.u65 hr) (x_var 6))) (xa_cons (x_itemV 1 (x_indexV 1 (Room.u65 hr) (x_var 7))) (xa_nil)))) (xa_nil)))))) (xs_one (xs_ret (x_bl))) (xs_nil)))))) (xs_nil)) (xs_one (xs_ret (x_eq (Room.u64 hr) (x_b1V 1 (call_repr gd (Room.u64 hr)) cb_repr e.n_repr (by decide +kernel)) (x_var 2))))))))
/-! ### _law_right -/
theorem sc__law_right : FnScope ["deck", "pair", "u", "v", "due", "named", "row", "k"] ["deck"] (defScope s__law_right) := ⟨rfl, rfl, rfl, by decide +kernel, rfl, by decide +kernel, by decide +kernel⟩
theorem ok__law_right (e : En K mg) (n : Nat) : FnG P w K mg base (L2.CX P w) (n + 11) e.a__law_right e.fd__law_right ["deck"] (spF K e.cl (f__law_right e.cl)) := have sc := sc__law_right; def_okG e.F__law_right sc fun cdv A outer s H E gd hr => xs_cons (xs_par3 1 2 3 (xa_cons (x_callA (ok__law_couple e (n + 7)) hr e.g__law_couple e.F__law_couple.kp (b__law_couple e) (takes_of rfl rfl rfl rfl) (xg_io 0 (xg_end))) (xa_cons (x_callA (ok__law_own e (n + 7)) hr e.g__law_own e.F__law_own.kp (b__law_own e) (takes_of rfl rfl rfl rfl) (xg_io 0 (xg_end))) (xa_cons (x_callA (ok__law_own e (n + 7)) hr e.g__law_own e.F__law_own.kp (b__law_own e) (takes_of rfl rfl rfl rfl) (xg_io 0 (xg_end))) (xa_nil)))) rfl sc.nd) (xs_cons (xs_if (xt_eq (Room.u64 hr) (x_callA (ok__law_take e (n + 9)) hr e.g__law_take e.F__law_take.kp (b__law_take e) (takes_of rfl rfl rfl rfl) (xg_io 0 (xg_v (x_int) (xg_end)))) (x_int)) (xs_one (xs_set 3 (x_call (ok__law_plus e (n + 7)) hr e.g__law_plus e.F__law_plus.kp (b__law_plus e) (takes_of rfl rfl rfl rfl) (xa_cons (x_var 2) (xa_cons (x_call (ok__law_pair e (n + 8)) hr e.g__law_pair e.F__law_pair.kp (b__law_pair e) (takes_of rfl rfl rfl rfl) (xa_cons (x_sub (x_callA (ok__law_take e (n + 9)) hr e.g__law_take e.F__law_take.kp (b__law_take e) (takes_of rfl rfl rfl rfl) (xg_io 0 (xg_v (x_int) (xg_end)))) (x_int)) (xa_cons (x_mul (x_itemV 2 (x_int)) (x_add (x_int) (x_callA (ok__law_take e (n + 9)) hr e.g__law_take e.F__law_take.kp (b__law_take e) (takes_of rfl rfl rfl rfl) (xg_io 0 (xg_v (x_int) (xg_end)))))) (xa_nil)))) (xa_nil)))) sc.nd)) (xs_nil)) (xs_cons (xs_if (xt_not (xt_val (x_call (ok__law_same e (n + 1) 8) hr e.g__law_same e.F__law_same.kp (b__law_same e) (takes_of rfl rfl rfl rfl) (xa_cons (x_lst (xa_cons (x_call (ok_is_number e (n + 8)) hr e.g_is_number e.F_is_number.kp (b_is_number e) (takes_of rfl rfl rfl rfl) (xa_cons (x_var 1) (xa_nil))) (xa_cons (x_callK0 (ok_is_number e (n + 8)) hr e.g_is_number e.F_is_number.kp (kb_is_number_0_told e) (takes_of rfl rfl rfl rfl) (xk_cons (x_var 1) (xk_nil))) (xa_cons (x_call (ok_is_number e (n + 8)) hr e.g_is_number e.F_is_number.kp (b_is_number e) (takes_of rfl rfl rfl rfl) (xa_cons (x_var 2) (xa_nil))) (xa_nil))))) (xa_cons (x_add (x_mul (x_lst (xa_cons (x_call (ok__law_is e (n + 8)) hr e.g__law_is e.F__law_is.kp (b__law_is e) (takes_of rfl rfl rfl rfl) (xa_cons (x_var 1) (xa_nil))) (xa_nil))) (x_int)) (x_lst (xa_cons (x_bl) (xa_nil)))) (xa_nil)))))) (xs_one (xs_ret (x_bl))) (xs_nil)) (xs_cons (xs_if (xt_ne (Room.u64 hr) (x_itemV 1 (x_int)) (x_int)) (xs_cons (xs_set 4 (x_call (ok__law_pair e (n + 8)) hr e.g__law_pair e.F__law_pair.kp (b__law_pair e) (takes_of rfl rfl rfl rfl) (xa_cons (x_itemV 1 (x_int)) (xa_cons (x_itemV 1 (x_int)) (xa_nil)))) sc.nd) (xs_one (xs_if (xt_not (xt_val (x_call (ok__law_same e (n + 1) 8) hr e.g__law_same e.F__law_same.kp (b__law_same e) (takes_of rfl rfl rfl rfl) (xa_cons (x_lst (xa_cons (x_call (ok_number e (n + 8)) hr e.g_number e.F_number.kp (b_number e) (takes_of rfl rfl rfl rfl) (xa_cons (x_itemV 1 (x_int)) (xa_cons (x_itemV 1 (x_int)) (xa_nil)))) (xa_cons (x_callK0 (ok_number e (n + 8)) hr e.g_number e.F_number.kp (kb_number_0_bottom_top e) (takes_of rfl rfl rfl rfl) (xk_cons (x_itemV 1 (x_int)) (xk_cons (x_itemV 1 (x_int)) (xk_nil)))) (xa_nil)))) (xa_cons (x_lst (xa_cons (x_var 4) (xa_cons (x_var 4) (xa_nil)))) (xa_nil)))))) (xs_one (xs_ret (x_bl))) (xs_nil)))) (xs_nil)) (xs_cons (xs_set 5 (x_eq (Room.u64 hr) (x_callA (ok__law_take e (n + 9)) hr e.g__law_take e.F__law_take.kp (b__law_take e) (takes_of rfl rfl rfl rfl) (xg_io 0 (xg_v (x_int) (xg_end)))) (x_int)) sc.nd) (xs_cons (xs_if (xt_not (xt_val (x_call (ok__law_same e (n + 1) 8) hr e.g__law_same e.F__law_same.kp (b__law_same e) (takes_of rfl rfl rfl rfl) (xa_cons (x_lst (xa_cons (x_call (ok__law_divided e (n + 5)) hr e.g__law_divided e.F__law_divided.kp (b__law_divided e) (takes_of rfl rfl rfl rfl) (xa_cons (x_int) (xa_cons (x_var 2) (xa_cons (x_var 5) (xa_nil))))) (xa_cons (x_call (ok__law_divided e (n + 5)) hr e.g__law_divided e.F__law_divided.kp (b__law_divided e) (takes_of rfl rfl rfl rfl) (xa_cons (x_int) (xa_cons (x_var 2) (xa_cons (x_var 5) (xa_nil))))) (xa_nil)))) (xa_cons (x_lst (xa_cons (x_lst (xa_cons (x_str) (xa_cons (x_itemV 2 (x_int)) (xa_nil)))) (xa_cons (x_lst (xa_cons (x_str) (xa_cons (x_var 2) (xa_nil)))) (xa_nil)))) (xa_nil)))))) (xs_one (xs_ret (x_bl))) (xs_nil)) (xs_cons (xs_if (PW.pt (xw_or (xt_not (xt_val (x_call (ok__law_power_right e (n + 0)) hr e.g__law_power_right e.F__law_power_right.kp (b__law_power_right e) (takes_of rfl rfl rfl rfl) (xa_cons (x_callA (ok__law_small e (n + 7)) hr e.g__law_small e.F__law_small.kp (b__law_small e) (takes_of rfl rfl rfl rfl) (xg_io 0 (xg_end))) (xa_cons (x_callA (ok__law_take e (n + 9)) hr e.g__law_take e.F__law_take.kp (b__law_take e) (takes_of rfl rfl rfl rfl) (xg_io 0 (xg_v (x_int) (xg_end)))) (xa_nil)))))) (xw_one (xt_not (xt_val (x_call (ok__law_power_right e (n + 0)) hr e.g__law_power_right e.F__law_power_right.kp (b__law_power_right e) (takes_of rfl rfl rfl rfl) (xa_cons (x_var 3) (xa_cons (x_callA (ok__law_take e (n + 9)) hr e.g__law_take e.F__law_take.kp (b__law_take e) (takes_of rfl rfl rfl rfl) (xg_io 0 (xg_v (x_int) (xg_end)))) (xa_nil))))))))) (xs_one (xs_ret (x_bl))) (xs_nil)) (xs_cons (xs_setLc 6 (own := [("k", 7)]) rfl sc.nd (xi_rng e.n_range (x_callA (ok__law_take e (n + 9)) hr e.g__law_take e.F__law_take.kp (b__law_take e) (takes_of rfl rfl rfl rfl) (xg_io 0 (xg_v (x_int) (xg_end))))) (blkOk_by (N := ["deck", "pair", "u", "v", "due", "named", "row", "k"]) (sc := defScope s__law_right) (by decide +kernel)) (gw_name (by decide)) (tg_name) (putO_name) (fun _ _ _ _ _ => pg_name sc.nd rfl (by first | exact Or.inl rfl | exact Or.inr rfl)) (fun _ _ _ _ _ => x_item (x_lst (xa_cons (x_callA (ok__law_small e (n + 7)) hr e.g__law_small e.F__law_small.kp (b__law_small e) takes0 (xg_io 0 (xg_end))) (xa_cons (x_callA (ok__law_own e (n + 7)) hr e.g__law_own e.F__law_own.kp (b__law_own e) takes0 (xg_io 0 (xg_end))) (xa_nil)))) (x_div (x_callA (ok__law_take e (n + 9)) hr e.g__law_take e.F__law_take.kp (b__law_take e) takes0 (xg_io 0 (xg_v (x_int) (xg_end)))) (x_int)))) (xs_cons (xs_if (PW.pt (xw_and (xt_neV 6 (Room.u64 hr) (x_lst (xa_nil))) (xw_one (xt_eq (Room.u64 hr) (x_callA (ok__law_take e (n + 9)) hr e.g__law_take e.F__law_take.kp (b__law_take e) (takes_of rfl rfl rfl rfl) (xg_io 0 (xg_v (x_int) (xg_end)))) (x_int))))) (xs_one (xs_app 6 (x_itemV 6 (x_callA (ok__law_take e (n + 9)) hr e.g__law_take e.F__law_take.kp (b__law_take e) (takes_of rfl rfl rfl rfl) (xg_io 0 (xg_v (x_b1V 6 call_len cb_len e.n_len (by decide +kernel)) (xg_end))))))) (xs_nil)) (xs_one (xs_ret (x_and (x_call (ok__law_two_right e (n + 0)) hr e.g__law_two_right e.F__law_two_right.kp (b__law_two_right e) (takes_of rfl rfl rfl rfl) (xa_cons (x_var 2) (xa_cons (x_var 3) (xa_nil)))) (x_and (x_call (ok__law_two_right e (n + 0)) hr e.g__law_two_right e.F__law_two_right.kp (b__law_two_right e) (takes_of rfl rfl rfl rfl) (xa_cons (x_var 3) (xa_cons (x_var 2) (xa_nil)))) (x_one (x_callAG (ok__law_row_right e (n + 0)) gd hr e.g__law_row_right e.F__law_row_right.kp (b__law_row_right e) (takes_of rfl rfl rfl rfl) (xg_io 0 (xg_v (x_var 6) (xg_end)))))))))))))))))
/-! ### law -/
theorem sc_law : FnScope ["script", "k", "pair"] ["script"] (defScope s_law) := ⟨rfl, rfl, rfl, by decide +kernel, rfl, by decide +kernel, by decide +kernel⟩
theorem ok_law (e : En K mg) (n : Nat) : FnG P w K mg base CX0 (n + 12) e.a_law e.fd_law ["script"] (sp0 K e.cl (f_law e.cl)) := have sc := sc_law; def_ok0G e.F_law sc fun cdv A outer s H E gd hr => xs_cons (xs_for (xi_rng e.n_range (x_b2 (call_max2 rfl) (cb_i2 fun _ _ _ => .int _) e.n_max (by decide +kernel) (x_int) (x_b2 (call_min2 rfl) (cb_i2 fun _ _ _ => .int _) e.n_min (by decide +kernel) (x_b1V 0 call_len cb_len e.n_len (by decide +kernel)) (x_int)))) (pg_name sc.nd rfl (by first | exact Or.inl rfl | exact Or.inr rfl)) (tg_name) (puts_N) (xs_one (xs_if (xt_not (xt_val (x_callAG (ok__law_right e (n + 0)) gd hr e.g__law_right e.F__law_right.kp (b__law_right e) takes0 (xg_tmp (x_call (ok__law_deck e (n + 10)) hr e.g__law_deck e.F__law_deck.kp (b__law_deck e) takes0 (xa_cons (x_var 0) (xa_cons (x_var 1) (xa_nil)))) (xg_end))))) (xs_one (xs_ret (x_bl))) (xs_nil))) PassesOwn.never rfl) (xs_cons (xs_for (xi_seq (x_lst (xa_cons (x_tup (xa_cons (x_int) (xa_cons (x_int) (xa_nil)))) (xa_cons (x_tup (xa_cons (x_int) (xa_cons (x_int) (xa_nil)))) (xa_cons (x_tup (xa_cons (x_int) (xa_cons (x_neg (x_int)) (xa_nil)))) (xa_cons (x_tup (xa_cons (x_int) (xa_cons (x_int) (xa_nil)))) (xa_cons (x_tup (xa_cons (x_int) (xa_cons (x_int) (xa_nil)))) (xa_cons (x_tup (xa_cons (x_neg (x_int)) (xa_cons (x_int) (xa_nil)))) (xa_cons (x_tup (xa_cons (x_int) (xa_cons (x_neg (x_int)) (xa_nil)))) (xa_cons (x_tup (xa_cons (x_int) (xa_cons (x_int) (xa_nil)))) (xa_cons (x_tup (xa_cons (x_int) (xa_cons (x_int) (xa_nil)))) (xa_cons (x_tup (xa_cons (x_int) (xa_cons (x_int) (xa_nil)))) (xa_nil))))))))))))) (pg_name sc.nd rfl (by first | exact Or.inl rfl | exact Or.inr rfl)) (tg_name) (puts_N) (xs_one (xs_if (xt_not (xt_val (x_call (ok__law_same e (n + 2) 8) hr e.g__law_same e.F__law_same.kp (b__law_same e) takes0 (xa_cons (x_call (ok_is_number e (n + 9)) hr e.g_is_number e.F_is_number.kp (b_is_number e) takes0 (xa_cons (x_var 2) (xa_nil))) (xa_cons (x_call (ok__law_is e (n + 9)) hr e.g__law_is e.F__law_is.kp (b__law_is e) takes0 (xa_cons (x_var 2) (xa_nil))) (xa_nil)))))) (xs_one (xs_ret (x_bl))) (xs_nil))) PassesOwn.never rfl) (xs_one (xs_ret (x_callAG (ok__law_row_right e (n + 1)) gd hr e.g__law_row_right e.F__law_row_right.kp (b__law_row_right e) takes0 (xg_tmp (x_lst (xa_cons (x_int) (xa_cons (x_int) (xa_nil)))) (xg_v (x_lst (xa_nil)) (xg_end)))))))
/-! ### the head -/
def nDef0 : List Str := ["is_whole", "is_number", "check_count", "number", "plus", "minus", "times", "by", "power", "below", "least", "greatest", "total", "_is_less", "_check_all"]
def nDef1 : List Str := ["_check_not_empty", "_law_deck", "_law_take", "_law_gcd", "_law_pair", "_law_plus", "_law_times", "_law_less", "_law_same", "_law_integer", "_law_couple", "_law_own", "_law_small", "_law_is", "_law_divided"]
def nDef2 : List Str := ["_law_two_right", "_law_power_right", "_law_row_right", "_law_right", "law"]
def nDef : List Str := nDef0 ++ nDef1 ++ nDef2
def nFree0 : List Str := ["abs", "bool", "int", "isinstance", "len", "list", "max", "min", "range", "repr", "str", "tuple"]
def nFree : List Str := nFree0
def nErr0 : List Str := ["TellError", "InvalidNumber", "DividedByZero"]
def nErr : List Str := nErr0
def D_is_whole : He.DefD := ⟨("is_whole", none), "is_whole", "is_whole", defArgs s_is_whole, defBody s_is_whole, defScope s_is_whole, [], []⟩
def D_is_number : He.DefD := ⟨("is_number", none), "is_number", "is_number", defArgs s_is_number, defBody s_is_number, defScope s_is_number, [], []⟩
def D_check_count : He.DefD := ⟨("check_count", none), "check_count", "check_count", defArgs s_check_count, defBody s_check_count, defScope s_check_count, [], []⟩
def D_number : He.DefD := ⟨("number", none), "number", "number", defArgs s_number, defBody s_number, defScope s_number, [], []⟩
def D_plus : He.DefD := ⟨("plus", none), "plus", "plus", defArgs s_plus, defBody s_plus, defScope s_plus, [], []⟩
def D_minus : He.DefD := ⟨("minus", none), "minus", "minus", defArgs s_minus, defBody s_minus, defScope s_minus, [], []⟩
def D_times : He.DefD := ⟨("times", none), "times", "times", defArgs s_times, defBody s_times, defScope s_times, [], []⟩
def D_by : He.DefD := ⟨("by", none), "by", "by", defArgs s_by, defBody s_by, defScope s_by, [], []⟩
def D_power : He.DefD := ⟨("power", none), "power", "power", defArgs s_power, defBody s_power, defScope s_power, [], []⟩
def D_below : He.DefD := ⟨("below", none), "below", "below", defArgs s_below, defBody s_below, defScope s_below, [], []⟩
def D_least : He.DefD := ⟨("least", none), "least", "least", defArgs s_least, defBody s_least, defScope s_least, [], []⟩
def D_greatest : He.DefD := ⟨("greatest", none), "greatest", "greatest", defArgs s_greatest, defBody s_greatest, defScope s_greatest, [], []⟩
def D_total : He.DefD := ⟨("total", none), "total", "total", defArgs s_total, defBody s_total, defScope s_total, [], []⟩
def D__is_less : He.DefD := ⟨("_is_less", none), "_is_less", "_is_less", defArgs s__is_less, defBody s__is_less, defScope s__is_less, [], []⟩
def D__check_all : He.DefD := ⟨("_check_all", none), "_check_all", "_check_all", defArgs s__check_all, defBody s__check_all, defScope s__check_all, [], []⟩
def D__check_not_empty : He.DefD := ⟨("_check_not_empty", none), "_check_not_empty", "_check_not_empty", defArgs s__check_not_empty, defBody s__check_not_empty, defScope s__check_not_empty, [], []⟩
def D__law_deck : He.DefD := ⟨("_law_deck", none), "_law_deck", "_law_deck", defArgs s__law_deck, defBody s__law_deck, defScope s__law_deck, [], []⟩
def D__law_take : He.DefD := ⟨("_law_take", none), "_law_take", "_law_take", defArgs s__law_take, defBody s__law_take, defScope s__law_take, [], []⟩
def D__law_gcd : He.DefD := ⟨("_law_gcd", none), "_law_gcd", "_law_gcd", defArgs s__law_gcd, defBody s__law_gcd, defScope s__law_gcd, [], []⟩
def D__law_pair : He.DefD := ⟨("_law_pair", none), "_law_pair", "_law_pair", defArgs s__law_pair, defBody s__law_pair, defScope s__law_pair, [], []⟩
def D__law_plus : He.DefD := ⟨("_law_plus", none), "_law_plus", "_law_plus", defArgs s__law_plus, defBody s__law_plus, defScope s__law_plus, [], []⟩
def D__law_times : He.DefD := ⟨("_law_times", none), "_law_times", "_law_times", defArgs s__law_times, defBody s__law_times, defScope s__law_times, [], []⟩
def D__law_less : He.DefD := ⟨("_law_less", none), "_law_less", "_law_less", defArgs s__law_less, defBody s__law_less, defScope s__law_less, [], []⟩
def D__law_same : He.DefD := ⟨("_law_same", none), "_law_same", "_law_same", defArgs s__law_same, defBody s__law_same, defScope s__law_same, [], []⟩
def D__law_integer : He.DefD := ⟨("_law_integer", none), "_law_integer", "_law_integer", defArgs s__law_integer, defBody s__law_integer, defScope s__law_integer, [], []⟩
def D__law_couple : He.DefD := ⟨("_law_couple", none), "_law_couple", "_law_couple", defArgs s__law_couple, defBody s__law_couple, defScope s__law_couple, [], []⟩
def D__law_own : He.DefD := ⟨("_law_own", none), "_law_own", "_law_own", defArgs s__law_own, defBody s__law_own, defScope s__law_own, [], []⟩
def D__law_small : He.DefD := ⟨("_law_small", none), "_law_small", "_law_small", defArgs s__law_small, defBody s__law_small, defScope s__law_small, [], []⟩
def D__law_is : He.DefD := ⟨("_law_is", none), "_law_is", "_law_is", defArgs s__law_is, defBody s__law_is, defScope s__law_is, [], []⟩
def D__law_divided : He.DefD := ⟨("_law_divided", none), "_law_divided", "_law_divided", defArgs s__law_divided, defBody s__law_divided, defScope s__law_divided, [], []⟩
def D__law_two_right : He.DefD := ⟨("_law_two_right", none), "_law_two_right", "_law_two_right", defArgs s__law_two_right, defBody s__law_two_right, defScope s__law_two_right, [], []⟩
def D__law_power_right : He.DefD := ⟨("_law_power_right", none), "_law_power_right", "_law_power_right", defArgs s__law_power_right, defBody s__law_power_right, defScope s__law_power_right, [], []⟩
def D__law_row_right : He.DefD := ⟨("_law_row_right", none), "_law_row_right", "_law_row_right", defArgs s__law_row_right, defBody s__law_row_right, defScope s__law_row_right, [], []⟩
def D__law_right : He.DefD := ⟨("_law_right", none), "_law_right", "_law_right", defArgs s__law_right, defBody s__law_right, defScope s__law_right, [], []⟩
def D_law : He.DefD := ⟨("law", none), "law", "law", defArgs s_law, defBody s_law, defScope s_law, [], []⟩
def fns0 : List He.DefD := [initD ⟨5, 17, 5, 21⟩ ⟨5, 23, 5, 28⟩ ⟨6, 8, 6, 12⟩ ⟨6, 8, 6, 18⟩ ⟨6, 21, 6, 26⟩ ⟨6, 8, 6, 26⟩, D_is_whole, D_is_number, D_check_count, D_number, D_plus, D_minus, D_times, D_by, D_power, D_below, D_least, D_greatest, D_total, D__is_less]
def fns1 : List He.DefD := [D__check_all, D__check_not_empty, D__law_deck, D__law_take, D__law_gcd, D__law_pair, D__law_plus, D__law_times, D__law_less, D__law_same, D__law_integer, D__law_couple, D__law_own, D__law_small, D__law_is]
def fns2 : List He.DefD := [D__law_divided, D__law_two_right, D__law_power_right, D__law_row_right, D__law_right, D_law]
def fns : List He.DefD := fns0 ++ fns1 ++ fns2
abbrev clA (K : PySem.W.Frag) (i : Nat) : Addr := He.ga K (nErr.getD i "")
abbrev inA (K : PySem.W.Frag) : Addr := He.ma K (He.ga K "TellError") "__init__"
def ck0 (K : PySem.W.Frag) : Bool := (nDef.all fun x => isOk (PySem.W.nsIn K mainGlobals x) (some (some (.ref (He.ga K x)))))
def ck1 (K : PySem.W.Frag) : Bool := (nFree.all fun x => isOk (PySem.W.nsIn K mainGlobals x) (some none))
def ck2 (K : PySem.W.Frag) : Bool := (nErr.all fun x => isOk (PySem.W.nsIn K mainGlobals x) (some (some (.ref (He.ga K x)))) && (errB K (He.ga K x) (inA K) && errI K (He.ga K x)))
def ck3 (K : PySem.W.Frag) : Bool := ((List.range 3).all fun c => (List.range 3).all fun k => decide (PySem.W.exmOne K (.ref (clA K c)) (.ref (clA K k)) = some (mt c k)))
def ck4 (K : PySem.W.Frag) : Bool := isOk (PySem.W.nsIn K mainGlobals "gcd") (some (some (.builtin "math.gcd")))
def ck5 (K : PySem.W.Frag) : Bool := isOk (PySem.W.nsIn K mainGlobals "ZERO") (some (some (.ref (He.ga K "ZERO"))))
def ck6 (K : PySem.W.Frag) : Bool := He.tupB K "ZERO" w_ZERO
def ck7 (K : PySem.W.Frag) : Bool := isOk (PySem.W.nsIn K mainGlobals "ONE") (some (some (.ref (He.ga K "ONE"))))
def ck8 (K : PySem.W.Frag) : Bool := He.tupB K "ONE" w_ONE
def ck (K : PySem.W.Frag) : Bool := ck0 K && (ck1 K && (ck2 K && (ck3 K && (ck4 K && (ck5 K && (ck6 K && (ck7 K && ck8 K)))))))
theorem en_of {K : PySem.W.Frag} {h : Heap} {mg : Str → Option Value} (X : K.In h) (G : h.Ns mainGlobals mg) (c : SaysX ck fns K) : Nonempty (En K mg) := by
  have hc := c.chk
  obtain ⟨c0, hc⟩ := Bool.and_eq_true_iff.mp hc
  obtain ⟨c1, hc⟩ := Bool.and_eq_true_iff.mp hc
  obtain ⟨c2, hc⟩ := Bool.and_eq_true_iff.mp hc
  obtain ⟨c3, hc⟩ := Bool.and_eq_true_iff.mp hc
  obtain ⟨c4, hc⟩ := Bool.and_eq_true_iff.mp hc
  obtain ⟨c5, hc⟩ := Bool.and_eq_true_iff.mp hc
  obtain ⟨c6, hc⟩ := Bool.and_eq_true_iff.mp hc
  obtain ⟨c7, hc⟩ := Bool.and_eq_true_iff.mp hc
  have c8 := hc
  have gD : ∀ i x, nDef[i]? = some x → mg x = some (.ref (He.ga K x)) := fun i x e => PySem.W.mg_of X G (of_decide_eq_true (List.all_eq_true.mp c0 x (List.mem_of_getElem? e)))
  have gF : ∀ i x, nFree[i]? = some x → mg x = none := fun i x e => PySem.W.mg_none_of X G (of_decide_eq_true (List.all_eq_true.mp c1 x (List.mem_of_getElem? e)))
  have gE : ∀ i x, nErr[i]? = some x → mg x = some (.ref (He.ga K x)) := fun i x e => PySem.W.mg_of X G (of_decide_eq_true (Bool.and_eq_true_iff.mp (List.all_eq_true.mp c2 x (List.mem_of_getElem? e))).1)
  obtain ⟨fdI, FI⟩ := c.def_ 0 rfl
  have tE : ∀ i x, nErr[i]? = some x → PySem.TellX.TellTxt K (He.ga K x) (inA K) := fun i x e => errB_ok (Bool.and_eq_true_iff.mp (Bool.and_eq_true_iff.mp (List.all_eq_true.mp c2 x (List.mem_of_getElem? e))).2).1 FI
  have iE : ∀ i x, nErr[i]? = some x → errI K (He.ga K x) = true := fun i x e => (Bool.and_eq_true_iff.mp (Bool.and_eq_true_iff.mp (List.all_eq_true.mp c2 x (List.mem_of_getElem? e))).2).2
  obtain ⟨fd0, F0⟩ := c.def_ 1 rfl
  obtain ⟨fd1, F1⟩ := c.def_ 2 rfl
  obtain ⟨fd2, F2⟩ := c.def_ 3 rfl
  obtain ⟨fd3, F3⟩ := c.def_ 4 rfl
  obtain ⟨fd4, F4⟩ := c.def_ 5 rfl
  obtain ⟨fd5, F5⟩ := c.def_ 6 rfl
  obtain ⟨fd6, F6⟩ := c.def_ 7 rfl
  obtain ⟨fd7, F7⟩ := c.def_ 8 rfl
  obtain ⟨fd8, F8⟩ := c.def_ 9 rfl
  obtain ⟨fd9, F9⟩ := c.def_ 10 rfl
  obtain ⟨fd10, F10⟩ := c.def_ 11 rfl
  obtain ⟨fd11, F11⟩ := c.def_ 12 rfl
  obtain ⟨fd12, F12⟩ := c.def_ 13 rfl
  obtain ⟨fd13, F13⟩ := c.def_ 14 rfl
  obtain ⟨fd14, F14⟩ := c.def_ 15 rfl
  obtain ⟨fd15, F15⟩ := c.def_ 16 rfl
  obtain ⟨fd16, F16⟩ := c.def_ 17 rfl
  obtain ⟨fd17, F17⟩ := c.def_ 18 rfl
  obtain ⟨fd18, F18⟩ := c.def_ 19 rfl
  obtain ⟨fd19, F19⟩ := c.def_ 20 rfl
  obtain ⟨fd20, F20⟩ := c.def_ 21 rfl
  obtain ⟨fd21, F21⟩ := c.def_ 22 rfl
  obtain ⟨fd22, F22⟩ := c.def_ 23 rfl
  obtain ⟨fd23, F23⟩ := c.def_ 24 rfl
  obtain ⟨fd24, F24⟩ := c.def_ 25 rfl
  obtain ⟨fd25, F25⟩ := c.def_ 26 rfl
  obtain ⟨fd26, F26⟩ := c.def_ 27 rfl
  obtain ⟨fd27, F27⟩ := c.def_ 28 rfl
  obtain ⟨fd28, F28⟩ := c.def_ 29 rfl
  obtain ⟨fd29, F29⟩ := c.def_ 30 rfl
  obtain ⟨fd30, F30⟩ := c.def_ 31 rfl
  obtain ⟨fd31, F31⟩ := c.def_ 32 rfl
  obtain ⟨fd32, F32⟩ := c.def_ 33 rfl
  obtain ⟨fd33, F33⟩ := c.def_ 34 rfl
  obtain ⟨fd34, F34⟩ := c.def_ 35 rfl
  exact ⟨{ cl := clA K, fI := inA K, c_TellError := gE 0 _ rfl, T_TellError := tE 0 _ rfl, c_InvalidNumber := gE 1 _ rfl, T_InvalidNumber := tE 1 _ rfl, c_DividedByZero := gE 2 _ rfl, T_DividedByZero := tE 2 _ rfl, EK := errK_of (n := 3) (fun c k hc hk => of_decide_eq_true (List.all_eq_true.mp (List.all_eq_true.mp c3 c (List.mem_range.mpr hc)) k (List.mem_range.mpr hk))) (fun c hc => tell_good (tE c (nErr.getD c "") (getD_at (Nat.lt_of_lt_of_le hc (by decide)))) (iE c (nErr.getD c "") (getD_at (Nat.lt_of_lt_of_le hc (by decide))))), a_is_whole := _, fd_is_whole := fd0, F_is_whole := F0, g_is_whole := gD 0 _ rfl, a_is_number := _, fd_is_number := fd1, F_is_number := F1, g_is_number := gD 1 _ rfl, a_check_count := _, fd_check_count := fd2, F_check_count := F2, g_check_count := gD 2 _ rfl, a_number := _, fd_number := fd3, F_number := F3, g_number := gD 3 _ rfl, a_plus := _, fd_plus := fd4, F_plus := F4, g_plus := gD 4 _ rfl, a_minus := _, fd_minus := fd5, F_minus := F5, g_minus := gD 5 _ rfl, a_times := _, fd_times := fd6, F_times := F6, g_times := gD 6 _ rfl, a_by := _, fd_by := fd7, F_by := F7, g_by := gD 7 _ rfl, a_power := _, fd_power := fd8, F_power := F8, g_power := gD 8 _ rfl, a_below := _, fd_below := fd9, F_below := F9, g_below := gD 9 _ rfl, a_least := _, fd_least := fd10, F_least := F10, g_least := gD 10 _ rfl, a_greatest := _, fd_greatest := fd11, F_greatest := F11, g_greatest := gD 11 _ rfl, a_total := _, fd_total := fd12, F_total := F12, g_total := gD 12 _ rfl, a__is_less := _, fd__is_less := fd13, F__is_less := F13, g__is_less := gD 13 _ rfl, a__check_all := _, fd__check_all := fd14, F__check_all := F14, g__check_all := gD 14 _ rfl, a__check_not_empty := _, fd__check_not_empty := fd15, F__check_not_empty := F15, g__check_not_empty := gD 15 _ rfl, a__law_deck := _, fd__law_deck := fd16, F__law_deck := F16, g__law_deck := gD 16 _ rfl, a__law_take := _, fd__law_take := fd17, F__law_take := F17, g__law_take := gD 17 _ rfl, a__law_gcd := _, fd__law_gcd := fd18, F__law_gcd := F18, g__law_gcd := gD 18 _ rfl, a__law_pair := _, fd__law_pair := fd19, F__law_pair := F19, g__law_pair := gD 19 _ rfl, a__law_plus := _, fd__law_plus := fd20, F__law_plus := F20, g__law_plus := gD 20 _ rfl, a__law_times := _, fd__law_times := fd21, F__law_times := F21, g__law_times := gD 21 _ rfl, a__law_less := _, fd__law_less := fd22, F__law_less := F22, g__law_less := gD 22 _ rfl, a__law_same := _, fd__law_same := fd23, F__law_same := F23, g__law_same := gD 23 _ rfl, a__law_integer := _, fd__law_integer := fd24, F__law_integer := F24, g__law_integer := gD 24 _ rfl, a__law_couple := _, fd__law_couple := fd25, F__law_couple := F25, g__law_couple := gD 25 _ rfl, a__law_own := _, fd__law_own := fd26, F__law_own := F26, g__law_own := gD 26 _ rfl, a__law_small := _, fd__law_small := fd27, F__law_small := F27, g__law_small := gD 27 _ rfl, a__law_is := _, fd__law_is := fd28, F__law_is := F28, g__law_is := gD 28 _ rfl, a__law_divided := _, fd__law_divided := fd29, F__law_divided := F29, g__law_divided := gD 29 _ rfl, a__law_two_right := _, fd__law_two_right := fd30, F__law_two_right := F30, g__law_two_right := gD 30 _ rfl, a__law_power_right := _, fd__law_power_right := fd31, F__law_power_right := F31, g__law_power_right := gD 31 _ rfl, a__law_row_right := _, fd__law_row_right := fd32, F__law_row_right := F32, g__law_row_right := gD 32 _ rfl, a__law_right := _, fd__law_right := fd33, F__law_right := F33, g__law_right := gD 33 _ rfl, a_law := _, fd_law := fd34, F_law := F34, g_law := gD 34 _ rfl, m_gcd := PySem.W.mg_of X G (of_decide_eq_true c4), v_ZERO := .ref (He.ga K "ZERO"), u_ZERO := .ref (He.ga K "ZERO"), g_ZERO := PySem.W.mg_of X G (of_decide_eq_true c5), r_ZERO := rfl, q_ZERO := fun H => dq_ZERO (He.tupB_ok c6 H), v_ONE := .ref (He.ga K "ONE"), u_ONE := .ref (He.ga K "ONE"), g_ONE := PySem.W.mg_of X G (of_decide_eq_true c7), r_ONE := rfl, q_ONE := fun H => dq_ONE (He.tupB_ok c8 H), n_abs := gF 0 _ rfl, n_bool := gF 1 _ rfl, n_int := gF 2 _ rfl, n_isinstance := gF 3 _ rfl, n_len := gF 4 _ rfl, n_list := gF 5 _ rfl, n_max := gF 6 _ rfl, n_min := gF 7 _ rfl, n_range := gF 8 _ rfl, n_repr := gF 9 _ rfl, n_str := gF 10 _ rfl, n_tuple := gF 11 _ rfl }⟩
abbrev R : PySem.W.OpenRow := PySem.W.OpenLaw.row PySem.Challenge.rw_oneservesall_k01_whole_numbers
abbrev hk : PySem.W.Hook := hookX 4 ck fns
def ob (s : PySem.W.SharedT) : He.AlD := obsXG 4 ck fns (HandSHeadRun.getT s)
theorem ob_eq (s : PySem.W.SharedT) : ob s = hk.obs s.abs := obsXG_eq (HandSHeadRun.getT_eq s)
def loose0 : List Str := ["TellError", "InvalidNumber", "DividedByZero", "ZERO", "ONE", "is_whole", "is_number", "check_count", "number", "plus", "minus", "times", "by", "power", "below"]
def loose1 : List Str := ["least", "greatest", "total", "_is_less", "_check_all", "_check_not_empty", "_law_deck", "_law_take", "_law_gcd", "_law_pair", "_law_plus", "_law_times", "_law_less", "_law_same", "_law_integer"]
def loose2 : List Str := ["_law_couple", "_law_own", "_law_small", "_law_is", "_law_divided", "_law_two_right", "_law_power_right", "_law_row_right", "_law_right"]
def loose : List Str := loose0 ++ loose1 ++ loose2
theorem run (w : World) : HandSHeadRun.RunEqI R (PySem.W.view R.prog [0, 43]) hk ob 15000 loose w := by
  unfold HandSHeadRun.RunEqI; kernel_rfl
end G
open PySem PySem.W PySem.Calls PyProof.Rows TX
theorem G.law_holds (h : ∀ (cl : Nat → Addr) (ns : List Int), ns.length ≤ 63 → ∃ b st, G.f_law cl [.pu (.scr ns)] = .ok (.bl true, b) st) : PySem.Challenge.rw_oneservesall_k01_whole_numbers.Holds := by
  w_on; o_law
  refine HandSHeadRun.head_imp (r := OpenLaw.row PySem.Challenge.rw_oneservesall_k01_whole_numbers) (q := view (OpenLaw.row PySem.Challenge.rw_oneservesall_k01_whole_numbers).prog [0, 43]) (H := G.hk) (ob := G.ob) (M := 15000) (loose := G.loose) (d := HandSHeadRun.topDef (OpenLaw.row PySem.Challenge.rw_oneservesall_k01_whole_numbers).prog 43) (kwd := []) G.ob_eq G.run (by kernel_rfl) (by kernel_rfl) (by kernel_rfl) (by rfl) (by first | assumption | decide +kernel) (by decide +kernel) ⟨rfl, rfl, rfl, rfl, rfl, by decide +kernel⟩ ?hw ?hc
  case hw => w_witness2
  case hc =>
    refine TX.walk_ofG (l := PySem.Challenge.rw_oneservesall_k01_whole_numbers) (n := 63) (k := 12) (x := "script") (CX := L2.CX0) rfl (by decide) (by kernel_rfl) ⟨rfl, by decide, by decide⟩ ?F (fun _ _ _ _ z => z)
    intro w mg fa hp Y GG hmg0
    obtain ⟨K, KX, c⟩ := Y
    have hmg : mg ("law" : PySem.Str) = some (.ref fa) := by
      have e : (HandSHeadRun.topDef (OpenLaw.row PySem.Challenge.rw_oneservesall_k01_whole_numbers).prog 43).name = ("law" : PySem.Str) := by kernel_rfl
      rw [← e]
      exact hmg0
    obtain ⟨e⟩ := G.en_of KX GG c
    have ee := hmg.symm.trans e.g_law
    cases ee
    have bb := L2.FunD.bindsA (ps := ["script"]) e.F_law fun _ _ _ _ _ _ us hl => match us, hl with | [_], _ => rfl
    refine ⟨K, e.fd_law, sp0 K e.cl (G.f_law e.cl), KX, fun s v => bb s [v] rfl, fun H a ns hl hS => ?_, fun base _ _ => (G.ok_law e 0 : _)⟩
    obtain ⟨b, st, q⟩ := h e.cl ns hl
    exact law_sp hS q
namespace G

end G
end
end

theorem PySem.Challenge.cw_oneservesall_k01_whole_numbers_holds : PySem.Challenge.rw_oneservesall_k01_whole_numbers.Holds :=
  G.law_holds fun cl ns hn => G.run_law G.shown cl ns hn
