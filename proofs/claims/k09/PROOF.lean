import PyProof.Rows.All
import Wide.All
import OpenK.AllK
import Wide.FinOn
import HandS.ForMost
import HandS.Exc
import HandS.TryOnly
import HandS.TryMany
import HandS.ExcOwn
import HandS.WordsExc
import HandS.Evl
import HandS.Wide
import HandS.IsInst
import HandS.Zip
import HandS.Deep
import HandS.AnyAll
import HandS.HeadHook4
import HandS.TupAny
import HandS.Gcd
import HandS.CallSlots
import HandS.Style
import HandS.Defaults
import HandS.Head3
import HandS.HeadEnd
import HandS.HeadHook2
import KE.KExcIs
import HandS.GenOver
import HandS.Rev
import KE.KRevSl
import HandS.HeadWalk
import HandS.EndTab
import KE.GoesMore
import HandS.Zip0
import KE.KDictZip
import HandS.Star
import HandS.GenList
import PySem.Challenge.RW_oneservesall_k09_whole_ladders_undone_an
section
set_option Elab.async false
set_option linter.all false
set_option maxRecDepth 100000
set_option maxHeartbeats 2000000
namespace TX
open PySem L2 Evl
/-- values as trees; scr: the script, a list that is read and never written -/
inductive D where
  | non | bl (b : Bool) | int (i : Int) | str (s : Str) | tup (ds : List D) | lst (ds : List D) | scr (ns : List Int) | exc (C : Addr) (v : D)
/-- an exception that was caught: its class, its own dict -/
def xo (a : Addr) (cls : Value) (d : Option Addr) : HO := .ext fun h => ∃ oe vs, h.get? a = some oe ∧ oe.cls = cls ∧ oe.dict = d ∧ oe.data = .fields vs
abbrev fV : Str := "value"
mutual
def D.toP : D → PyData
  | .non => .none
  | .bl b => .bool b
  | .int i => .int i
  | .str s => .str s
  | .tup ds => .tuple (D.toPs ds)
  | .lst ds => .list (D.toPs ds)
  | .scr ns => .list (ns.map .int)
  | .exc _ _ => .dict []
def D.toPs : List D → List PyData
  | [] => []
  | d :: ds => d.toP :: D.toPs ds
end
theorem D.toPs_map : ∀ ds : List D, D.toPs ds = ds.map D.toP
  | [] => rfl
  | d :: ds => by show d.toP :: D.toPs ds = d.toP :: ds.map D.toP; rw [D.toPs_map ds]
/-- what a class of errors says of its instances' fields -/
structure GoodC (K : PySem.W.Frag) (C : Addr) : Prop where
  ga : PySem.W.findIn K (.ref C) "__getattribute__" = some (some (.builtin "BaseException.__getattribute__"))
  gg : PySem.W.findIn K (.ref C) "__getattr__" = some none
  exC : PySem.W.subIn K (.ref C) (.type "BaseException") = some true
  hdC : PySem.W.hasDictIn K C = true
  noV : PySem.W.findIn K (.ref C) fV = some none
  clC : (PySem.W.clsIn K C).isSome = true
  caC : PySem.W.findIn K (.ref C) "__class__" = some (some (.builtin "object.__class__"))
  cnC : PySem.W.specialIn K (.builtin "object.__class__") "__get__" = some (some (.builtin "getset_descriptor.__get__"))
  ctC : PySem.W.takesIn K (.builtin "object.__class__") = some true
  cmC : PySem.W.mroIn K C (.type "object") = some true
mutual
/-- a value is a tree -/
inductive Dq (K : PySem.W.Frag) (H : Hp) : V → D → Prop
  | non : Dq K H .non .non
  | bl (b : Bool) : Dq K H (.bl b) (.bl b)
  | int (i : Int) : Dq K H (.int i) (.int i)
  | str (x : Str) : Dq K H (.str x) (.str x)
  | lst {a : Addr} {xs : List V} {ds : List D} : H a = some (.lst xs) → DqAll K H xs ds → Dq K H (.ref a) (.lst ds)
  | tup {a : Addr} {xs : List V} {ds : List D} : SqT K H a xs → DqAll K H xs ds → Dq K H (.ref a) (.tup ds)
  | scr {a : Addr} {ns : List Int} : SqL K H a (ns.map V.int) → Dq K H (.ref a) (.scr ns)
  | exc {a C dx : Addr} {v : V} {d : D} : GoodC K C → H a = some (xo a (.ref C) (some dx)) → H dx = some (.xd [(fV, v)]) → Dq K H v d → Dq K H (.ref a) (.exc C d)
inductive DqAll (K : PySem.W.Frag) (H : Hp) : List V → List D → Prop
  | nil : DqAll K H [] []
  | cons {v : V} {vs : List V} {d : D} {ds : List D} : Dq K H v d → DqAll K H vs ds → DqAll K H (v :: vs) (d :: ds)
end
theorem dpAll_ints {K : PySem.W.Frag} {H : Hp} : ∀ ns : List Int, DpAll K H (ns.map V.int) (ns.map .int)
  | [] => .nil
  | _ :: ns => .cons (.int _) (dpAll_ints ns)
mutual
theorem Dq.dp {K : PySem.W.Frag} {H : Hp} : ∀ {d : D} {v : V}, Dq K H v d → d.toP.canLay0 = true → Dp K H v d.toP
  | .non, _, h, _ => by cases h; exact .non
  | .bl _, _, h, _ => by cases h; exact .bl _
  | .int _, _, h, _ => by cases h; exact .int _
  | .str _, _, h, _ => by cases h; exact .str _
  | .lst ds, _, h, c => by
    cases h with
    | lst hs ha => exact .lst (SqL.of hs) (ha.dp (by simpa [D.toP, PyData.canLay0] using c))
  | .tup ds, _, h, c => by
    cases h with
    | tup hs ha => exact .tup hs (ha.dp (by simpa [D.toP, PyData.canLay0] using c))
  | .scr ns, _, h, _ => by
    cases h with
    | scr hs => exact .lst hs (dpAll_ints ns)
  | .exc _ _, _, _, c => by simp [D.toP, PyData.canLay0] at c
theorem DqAll.dp {K : PySem.W.Frag} {H : Hp} : ∀ {ds : List D} {vs : List V}, DqAll K H vs ds → PyData.canLayAll0 (D.toPs ds) = true → DpAll K H vs (D.toPs ds)
  | [], _, h, _ => by cases h; exact .nil
  | d :: ds, _, h, c => by
    have c' : d.toP.canLay0 = true ∧ PyData.canLayAll0 (D.toPs ds) = true := by
      simpa [D.toPs, PyData.canLayAll0, Bool.and_eq_true] using c
    cases h with
    | cons h1 h2 => exact .cons (h1.dp c'.1) (h2.dp c'.2)
end

/-! ### heaps with addresses put out of sight -/
def msk (S : List Addr) (H : Hp) : Hp := fun a => if a ∈ S then none else H a
theorem msk_in {S : List Addr} {H : Hp} {a : Addr} (h : a ∈ S) : msk S H a = none := by unfold msk; rw [if_pos h]
theorem msk_out {S : List Addr} {H : Hp} {a : Addr} (h : a ∉ S) : msk S H a = H a := by unfold msk; rw [if_neg h]
theorem msk_some {S : List Addr} {H : Hp} {a : Addr} {o : HO} (h : msk S H a = some o) : a ∉ S ∧ H a = some o := by
  by_cases hs : a ∈ S
  · rw [msk_in hs] at h; cases h
  · rw [msk_out hs] at h; exact ⟨hs, h⟩
theorem msk_ex {S : List Addr} {H : Hp} : Ex (msk S H) H := fun a o h => (msk_some h).2
theorem msk_sub {S T : List Addr} {H : Hp} (h : ∀ a ∈ S, a ∈ T) : Ex (msk T H) (msk S H) := fun a o e => by
  obtain ⟨n, e⟩ := msk_some e
  rw [msk_out fun z => n (h a z)]
  exact e
theorem msk_nil {H : Hp} : msk [] H = H := by funext a; exact msk_out (by simp)
theorem msk_mono {S : List Addr} {H H' : Hp} (e : Ex H H') : Ex (msk S H) (msk S H') := fun a o h => by
  obtain ⟨n, h⟩ := msk_some h
  rw [msk_out n]
  exact e a o h
/-- an object out of sight changes -/
theorem msk_upd {S : List Addr} {H : Hp} {p : Addr} {o : HO} (h : p ∈ S) : msk S (upd H p o) = msk S H := by
  funext a
  by_cases hs : a ∈ S
  · rw [msk_in hs, msk_in hs]
  · rw [msk_out hs, msk_out hs, upd_ne fun e => hs (by rw [e]; exact h)]
theorem ex_new {S : List Addr} {H : Hp} {p : Addr} {o : HO} (h : H p = none) : Ex (msk S H) (msk S (upd H p o)) := msk_mono (Ex.new h)
theorem msk_congr {S T : List Addr} {H : Hp} (h : ∀ a, a ∈ S ↔ a ∈ T) : msk S H = msk T H := by
  funext a
  by_cases hs : a ∈ S
  · rw [msk_in hs, msk_in ((h a).mp hs)]
  · rw [msk_out hs, msk_out fun z => hs ((h a).mpr z)]

theorem ex_l {K : PySem.W.Frag} {H H' : Hp} {a : Addr} {xs : List V} (e : Ex H H') (h : SqL K H a xs) : SqL K H' a xs := by
  rcases h with (h | ⟨o, h⟩) | h
  · exact .inl (.inl (e _ _ h))
  · exact .inl (.inr ⟨o, e _ _ h⟩)
  · exact .inr h

/-! ### data that is read stays -/
mutual
theorem dp_mono {K : PySem.W.Frag} {H H' : Hp} (e : Ex H H') : ∀ {d : D} {v : V}, Dq K H v d → Dq K H' v d
  | .non, _, h => by cases h; exact .non
  | .bl _, _, h => by cases h; exact .bl _
  | .int _, _, h => by cases h; exact .int _
  | .str _, _, h => by cases h; exact .str _
  | .lst ds, _, h => by
    cases h with
    | lst hs ha => exact .lst (e _ _ hs) (dpAll_mono e ha)
  | .tup ds, _, h => by
    cases h with
    | tup hs ha => exact .tup (ex_t e hs) (dpAll_mono e ha)
  | .scr ns, _, h => by
    cases h with
    | scr hs => exact .scr (ex_l e hs)
  | .exc _ d, _, h => by
    cases h with
    | exc g h1 h2 h3 => exact .exc g (e _ _ h1) (e _ _ h2) (dp_mono e h3)
theorem dpAll_mono {K : PySem.W.Frag} {H H' : Hp} (e : Ex H H') : ∀ {ds : List D} {vs : List V}, DqAll K H vs ds → DqAll K H' vs ds
  | [], _, h => by cases h; exact .nil
  | d :: ds, _, h => by
    cases h with
    | cons h1 h2 => exact .cons (dp_mono e h1) (dpAll_mono e h2)
end
theorem dpAll_len {K : PySem.W.Frag} {H : Hp} : ∀ {vs : List V} {ds : List D}, DqAll K H vs ds → vs.length = ds.length
  | _, _, .nil => rfl
  | _, _, .cons _ r => by rw [List.length_cons, List.length_cons, dpAll_len r]
theorem dpAll_get {K : PySem.W.Frag} {H : Hp} : ∀ {vs : List V} {ds : List D} {i : Nat} {v : V}, DqAll K H vs ds → vs[i]? = some v → ∃ d, ds[i]? = some d ∧ Dq K H v d
  | _, _, _, _, .nil, e => by simp at e
  | _, _, 0, _, .cons h _, e => by simp at e; subst e; exact ⟨_, rfl, h⟩
  | _, _, i + 1, v, .cons _ r, e => by
    obtain ⟨d, e1, h⟩ := dpAll_get (i := i) r (by simpa using e)
    exact ⟨d, by simpa using e1, h⟩
theorem dpAll_getD {K : PySem.W.Frag} {H : Hp} : ∀ {vs : List V} {ds : List D} {i : Nat} {d : D}, DqAll K H vs ds → ds[i]? = some d → ∃ v, vs[i]? = some v ∧ Dq K H v d
  | _, _, _, _, .nil, e => by simp at e
  | _, _, 0, _, .cons h _, e => by simp at e; subst e; exact ⟨_, rfl, h⟩
  | _, _, i + 1, d, .cons _ r, e => by
    obtain ⟨v, e1, h⟩ := dpAll_getD (i := i) r (by simpa using e)
    exact ⟨v, by simpa using e1, h⟩
theorem dpAll_append {K : PySem.W.Frag} {H : Hp} : ∀ {vs ws : List V} {ds es : List D}, DqAll K H vs ds → DqAll K H ws es → DqAll K H (vs ++ ws) (ds ++ es)
  | _, _, _, _, .nil, s => s
  | _, _, _, _, .cons h r, s => .cons h (dpAll_append r s)
theorem dpAll_set {K : PySem.W.Frag} {H : Hp} {v : V} {d : D} (h : Dq K H v d) : ∀ {vs : List V} {ds : List D} (i : Nat), DqAll K H vs ds → DqAll K H (vs.set i v) (ds.set i d)
  | _, _, _, .nil => .nil
  | _, _, 0, .cons _ r => .cons h r
  | _, _, i + 1, .cons q r => .cons q (dpAll_set h i r)
theorem dpAll_take {K : PySem.W.Frag} {H : Hp} : ∀ {vs : List V} {ds : List D} (n : Nat), DqAll K H vs ds → DqAll K H (vs.take n) (ds.take n)
  | _, _, 0, _ => by simp only [List.take_zero]; exact .nil
  | _, _, _ + 1, .nil => by simp only [List.take_nil]; exact .nil
  | _, _, n + 1, .cons h r => .cons h (dpAll_take n r)
theorem dpAll_drop {K : PySem.W.Frag} {H : Hp} : ∀ {vs : List V} {ds : List D} (n : Nat), DqAll K H vs ds → DqAll K H (vs.drop n) (ds.drop n)
  | _, _, 0, h => h
  | _, _, _ + 1, .nil => by simp only [List.drop_nil]; exact .nil
  | _, _, n + 1, .cons _ r => dpAll_drop n r

/-! ### slots -/
inductive Sl where
  | un | pu (d : D) | ow (ds : List D)
/-- the lists that slots own -/
def ownd : List Sl → L2.St → List Addr
  | .ow _ :: st, some (.ref p) :: σ => p :: ownd st σ
  | _ :: st, _ :: σ => ownd st σ
  | _, _ => []
/-- what is out of sight: lists that are owned, and others -/
abbrev hid (Xs : List Addr) (st : List Sl) (σ : L2.St) : List Addr := ownd st σ ++ Xs
abbrev vis (Xs : List Addr) (st : List Sl) (σ : L2.St) (H : Hp) : Hp := msk (hid Xs st σ) H

/-! ### the tables of code objects: they stand, and may grow -/
/-- the written part's code objects with their tables, those that are not in it -/
def cTs (K : PySem.W.Frag) : List (Addr × Addr) := (K.filter fun q => PySem.W.codeHdIn K q.1 (He.tabOf K q.1) && (K.lookup (He.tabOf K q.1)).isNone).map fun q => (q.1, He.tabOf K q.1)
def tabs (K : PySem.W.Frag) : List Addr := (cTs K).map (·.2)
/-- an object out of sight: as it was, or a table that has grown -/
def Kp (o o' : Option HO) : Prop := o' = o ∨ ∃ ps ps' : Array Value, o = some (.tbl ps) ∧ o' = some (.tbl ps') ∧ TriplesOk ps'.toList
theorem Kp.refl (o : Option HO) : Kp o o := .inl rfl
theorem Kp.trans {a b c : Option HO} (h : Kp a b) (k : Kp b c) : Kp a c := by
  rcases h with h | ⟨p, q, h1, h2, h3⟩
  · subst h; exact k
  · rcases k with k | ⟨p', q', k1, k2, k3⟩
    · subst k; exact .inr ⟨p, q, h1, h2, h3⟩
    · exact .inr ⟨p, q', h1, k2, k3⟩
theorem Kp.ne {a b : Option HO} (h : Kp a b) (ha : a ≠ none) : b ≠ none := by
  rcases h with h | ⟨p, q, _, h2, _⟩
  · rw [h]; exact ha
  · rw [h2]; simp
theorem Kp.lst {a b : Option HO} {xs : List V} (h : Kp a b) (ha : a = some (.lst xs)) : b = a := by
  rcases h with h | ⟨p, q, h1, _, _⟩
  · exact h
  · rw [ha] at h1; cases h1
theorem Kp.tab {H H' : Hp} {P : Addr} (h : Kp (H P) (H' P)) (t : GxR.TabG H P) : GxR.TabG H' P := by
  rcases h with h | ⟨p, q, _, h2, h3⟩
  · unfold GxR.TabG; rw [h]; exact t
  · exact ⟨q, h2, h3⟩
/-- what is out of sight besides the owned lists: it stands, the tables are among it -/
structure XsOk (K : PySem.W.Frag) (Xs : List Addr) (H : Hp) : Prop where
  ne : ∀ x ∈ Xs, H x ≠ none
  tb : ∀ P ∈ tabs K, P ∈ Xs ∧ GxR.TabG H P
section
variable {K : PySem.W.Frag} {Xs Ys : List Addr} {H H' : Hp}
theorem XsOk.kp (h : XsOk K Xs H) (k : ∀ x ∈ Xs, Kp (H x) (H' x)) : XsOk K Xs H' := ⟨fun x hx => (k x hx).ne (h.ne x hx), fun P hP => ⟨(h.tb P hP).1, (k P (h.tb P hP).1).tab (h.tb P hP).2⟩⟩
theorem XsOk.eq (h : XsOk K Xs H) (k : ∀ x ∈ Xs, H' x = H x) : XsOk K Xs H' := h.kp fun x hx => .inl (k x hx)
/-- lists more or less -/
theorem XsOk.to (h : XsOk K Xs H) (hn : ∀ x ∈ Ys, H x ≠ none) (hm : ∀ x ∈ Xs, x ∈ Ys ∨ ∃ vs, H x = some (.lst vs)) : XsOk K Ys H := ⟨hn, fun P hP => by
  obtain ⟨h1, h2⟩ := h.tb P hP
  refine ⟨?_, h2⟩
  rcases hm P h1 with z | ⟨vs, z⟩
  · exact z
  · obtain ⟨ps, q, _⟩ := h2
    rw [z] at q
    cases q⟩
theorem XsOk.cons {a : Addr} (h : XsOk K Xs H) (ha : H a ≠ none) : XsOk K (a :: Xs) H := h.to (fun x hx => by
  rcases List.mem_cons.mp hx with e | hx
  · rw [e]; exact ha
  · exact h.ne x hx) fun x hx => .inl (List.mem_cons_of_mem _ hx)
end
structure Rel (K : PySem.W.Frag) (Xs : List Addr) (st : List Sl) (σ : L2.St) (H : Hp) : Prop where
  len : st.length = σ.length
  nd : (hid Xs st σ).Nodup
  pu : ∀ (i : Nat) (d : D), st[i]? = some (.pu d) → ∃ v, σ[i]? = some (some v) ∧ Dq K (vis Xs st σ H) v d
  ow : ∀ (i : Nat) (ds : List D), st[i]? = some (.ow ds) → ∃ p vs, σ[i]? = some (some (.ref p)) ∧ H p = some (.lst vs) ∧ DqAll K (vis Xs st σ H) vs ds
  xs : XsOk K Xs H

/-- the slots that own lists owned some before -/
def OwLess (st st' : List Sl) : Prop := ∀ (i : Nat) (ds : List D), st'[i]? = some (.ow ds) → ∃ ds', st[i]? = some (.ow ds')
theorem OwLess.refl (st : List Sl) : OwLess st st := fun i ds h => ⟨ds, h⟩
theorem OwLess.trans {a b c : List Sl} (h : OwLess a b) (k : OwLess b c) : OwLess a c := fun i ds e => by
  obtain ⟨ds', e⟩ := k i ds e
  exact h i ds' e
/-- from one state to a later one; the slots' values stay -/
structure Post (K : PySem.W.Frag) (Xs : List Addr) (st : List Sl) (σ : L2.St) (H : Hp) (st' : List Sl) (H' : Hp) : Prop where
  rel : Rel K Xs st' σ H'
  ex : Ex (vis Xs st σ H) (vis Xs st' σ H')
  xs : ∀ x ∈ Xs, Kp (H x) (H' x)
  dom : ∀ a, H' a = none → H a = none
  ol : OwLess st st'
theorem Post.refl {K : PySem.W.Frag} {Xs : List Addr} {st : List Sl} {σ : L2.St} {H : Hp} (r : Rel K Xs st σ H) : Post K Xs st σ H st H := ⟨r, Ex.refl _, fun _ _ => Kp.refl _, fun _ h => h, OwLess.refl _⟩
theorem Post.trans {K : PySem.W.Frag} {Xs : List Addr} {st st1 st2 : List Sl} {σ : L2.St} {H H1 H2 : Hp} (a : Post K Xs st σ H st1 H1) (b : Post K Xs st1 σ H1 st2 H2) : Post K Xs st σ H st2 H2 :=
  ⟨b.rel, a.ex.trans b.ex, fun x h => (a.xs x h).trans (b.xs x h), fun x h => a.dom x (b.dom x h), a.ol.trans b.ol⟩

/-- an owned list's place -/
theorem ownd_mem : ∀ {st : List Sl} {σ : L2.St} {i : Nat} {ds : List D} {p : Addr}, st[i]? = some (.ow ds) → σ[i]? = some (some (.ref p)) → p ∈ ownd st σ
  | s :: st, v :: σ, 0, ds, p, h1, h2 => by
    simp at h1 h2
    subst h1; subst h2
    show p ∈ p :: ownd st σ
    exact List.mem_cons_self
  | s :: st, v :: σ, i + 1, ds, p, h1, h2 => by
    have ih := ownd_mem (st := st) (σ := σ) (i := i) (ds := ds) (p := p) (by simpa using h1) (by simpa using h2)
    unfold ownd
    split
    · next e1 e2 => cases e1; cases e2; exact List.mem_cons_of_mem _ ih
    · next e1 e2 => cases e1; cases e2; exact ih
    · next e => exact absurd rfl (e _ _ _ _ rfl)
  | [], _, _, _, _, h, _ => by simp at h
  | _ :: _, [], _, _, _, _, h => by simp at h
theorem ownd_of : ∀ {st : List Sl} {σ : L2.St} {p : Addr}, p ∈ ownd st σ → ∃ (i : Nat) (ds : List D), st[i]? = some (.ow ds) ∧ σ[i]? = some (some (.ref p))
  | s :: st, v :: σ, p, h => by
    unfold ownd at h
    split at h
    · next e1 e2 =>
      cases e1; cases e2
      rcases List.mem_cons.mp h with e | h
      · subst e; exact ⟨0, _, rfl, rfl⟩
      · obtain ⟨i, ds, h1, h2⟩ := ownd_of h
        exact ⟨i + 1, ds, by simpa using h1, by simpa using h2⟩
    · next e1 e2 =>
      cases e1; cases e2
      obtain ⟨i, ds, h1, h2⟩ := ownd_of h
      exact ⟨i + 1, ds, by simpa using h1, by simpa using h2⟩
    · next e => exact absurd rfl (e _ _ _ _ rfl)
  | [], σ, p, h => by unfold ownd at h; cases h
  | _ :: _, [], p, h => by
    unfold ownd at h
    split at h
    · next e => cases e
    · next e => cases e
    · cases h
/-- a slot that owns nothing gives nothing -/
theorem ownd_set_ne {s' : Sl} (hs' : ∀ ds, s' ≠ .ow ds) : ∀ {st : List Sl} {σ : L2.St} {i : Nat} {v : Option V}, (∀ ds, st[i]? ≠ some (.ow ds)) → ownd (st.set i s') (σ.set i v) = ownd st σ
  | [], σ, i, v, _ => by rw [List.set_nil]; unfold ownd; rfl
  | s :: st, [], i, v, _ => by
    rw [List.set_nil]
    have h : ∀ l : List Sl, ownd l [] = [] := fun l => by unfold ownd; split <;> simp_all
    rw [h, h]
  | s :: st, x :: σ, 0, v, h => by
    show ownd (s' :: st) (v :: σ) = ownd (s :: st) (x :: σ)
    have e1 : ownd (s' :: st) (v :: σ) = ownd st σ := by
      cases s' with
      | ow ds => exact absurd rfl (hs' ds)
      | un => rfl
      | pu d => rfl
    have e2 : ownd (s :: st) (x :: σ) = ownd st σ := by
      cases s with
      | ow ds => exact absurd rfl (h ds)
      | un => rfl
      | pu d => rfl
    rw [e1, e2]
  | s :: st, x :: σ, i + 1, v, h => by
    show ownd (s :: st.set i s') (x :: σ.set i v) = ownd (s :: st) (x :: σ)
    have ih := ownd_set_ne hs' (st := st) (σ := σ) (i := i) (v := v) (fun ds => by simpa using h ds)
    cases s with
    | un => exact ih
    | pu d => exact ih
    | ow ds =>
      cases x with
      | none => exact ih
      | some w =>
        cases w with
        | ref p => exact congrArg (p :: ·) ih
        | _ => exact ih
/-- an owning slot with other contents -/
theorem ownd_set_ow : ∀ {st : List Sl} {σ : L2.St} {i : Nat} {ds ds' : List D}, st[i]? = some (.ow ds) → ownd (st.set i (.ow ds')) σ = ownd st σ
  | s :: st, [], i, ds, ds', h => by
    have h : ∀ l : List Sl, ownd l [] = [] := fun l => by unfold ownd; split <;> simp_all
    rw [h, h]
  | s :: st, x :: σ, 0, ds, ds', h => by
    simp at h
    subst h
    show ownd (.ow ds' :: st) (x :: σ) = ownd (.ow ds :: st) (x :: σ)
    cases x with
    | none => rfl
    | some w => cases w <;> rfl
  | s :: st, x :: σ, i + 1, ds, ds', h => by
    have ih := ownd_set_ow (st := st) (σ := σ) (i := i) (ds := ds) (ds' := ds') (by simpa using h)
    show ownd (s :: st.set i (.ow ds')) (x :: σ) = ownd (s :: st) (x :: σ)
    cases s with
    | un => exact ih
    | pu d => exact ih
    | ow ds =>
      cases x with
      | none => exact ih
      | some w =>
        cases w with
        | ref p => exact congrArg (p :: ·) ih
        | _ => exact ih
  | [], _, _, _, _, h => by simp at h
end TX

end

section
set_option Elab.async false
set_option linter.all false
set_option maxRecDepth 100000
set_option maxHeartbeats 2000000
namespace TX
open PySem L2 Evl

/-! ### outcomes -/
inductive O (α : Type) where
  | ok (a : α) (st : List Sl) | ex (c : Nat) (d : D) (st : List Sl) | no
def O.bind {α β : Type} (o : O α) (f : α → List Sl → O β) : O β := match o with
  | .ok a st => f a st
  | .ex c d st => .ex c d st
  | .no => .no
/-- a value, and whether its root is a new list that nothing else holds -/
abbrev R1 := D × Bool
abbrev EvE := List Sl → O R1
abbrev EvA := List Sl → O (List D)
abbrev EvT := List Sl → O Bool
def Rdo {α : Type} (o : O α) (k : α → List Sl → Prop) (x : Nat → D → List Sl → Prop) : Prop := match o with
  | .ok a st => k a st
  | .ex c d st => x c d st
  | .no => False
theorem Rdo.mono {α : Type} {o : O α} {k k' : α → List Sl → Prop} {x x' : Nat → D → List Sl → Prop} (h : Rdo o k x) (hk : ∀ a s, k a s → k' a s) (hx : ∀ c d s, x c d s → x' c d s) : Rdo o k' x' := by
  cases o with
  | ok a s => exact hk a s h
  | ex c d s => exact hx c d s h
  | no => exact h
theorem rdo_bind {α β : Type} {o : O α} {f : α → List Sl → O β} {k : β → List Sl → Prop} {x : Nat → D → List Sl → Prop} (h : Rdo (o.bind f) k x) : Rdo o (fun a s => Rdo (f a s) k x) x := by
  cases o <;> exact h

/-- what is wanted of an exception; the classes by their numbers -/
structure Wi where
  W : WX
  cl : Nat → Addr
def exW (K : PySem.W.Frag) (w : Wi) (Xs : List Addr) (st : List Sl) (σ : L2.St) (H : Hp) : Nat → D → List Sl → Prop := fun c d st' =>
  ∀ (dx : Addr) (v : V) (H' : Hp), Post K Xs st σ H st' H' → vis Xs st' σ H' dx = some (.xd [(fV, v)]) → Dq K (vis Xs st' σ H') v d → w.W (.ref (w.cl c)) (some dx) σ H'
theorem exW_on {K : PySem.W.Frag} {w : Wi} {Xs : List Addr} {st st1 : List Sl} {σ : L2.St} {H H1 : Hp} (p : Post K Xs st σ H st1 H1) {c : Nat} {d : D} {s : List Sl} (h : exW K w Xs st σ H c d s) : exW K w Xs st1 σ H1 c d s :=
  fun dx v H' q e r => h dx v H' (p.trans q) e r
/-- a value that came -/
structure Val (K : PySem.W.Frag) (Xs : List Addr) (σ : L2.St) (H : Hp) (st' : List Sl) (H' : Hp) (v : V) (r : R1) : Prop where
  dp : Dq K (vis Xs st' σ H') v r.1
  fr : r.2 = true → ∃ p vs ds, v = .ref p ∧ r.1 = .lst ds ∧ H p = none ∧ H' p = some (.lst vs) ∧ DqAll K (vis (p :: Xs) st' σ H') vs ds ∧ Rel K (p :: Xs) st' σ H'
theorem Val.old {K : PySem.W.Frag} {Xs : List Addr} {σ : L2.St} {H : Hp} {st' : List Sl} {H' : Hp} {v : V} {d : D} (h : Dq K (vis Xs st' σ H') v d) : Val K Xs σ H st' H' v (d, false) := ⟨h, fun e => by cases e⟩
theorem Val.of {K : PySem.W.Frag} {Xs : List Addr} {st st1 : List Sl} {σ : L2.St} {H H1 : Hp} (p : Post K Xs st σ H st1 H1) {st' : List Sl} {H' : Hp} {v : V} {r : R1} (h : Val K Xs σ H1 st' H' v r) : Val K Xs σ H st' H' v r :=
  ⟨h.dp, fun e => by
    obtain ⟨q, vs, ds, h1, h2, h3, h4⟩ := h.fr e
    exact ⟨q, vs, ds, h1, h2, p.dom q h3, h4⟩⟩

def tE (K : PySem.W.Frag) (w : Wi) (ev : EvE) : TE := fun σ H Q => ∃ Xs st, Rel K Xs st σ H ∧ Rdo (ev st) (fun r st' => ∀ v H', Post K Xs st σ H st' H' → Val K Xs σ H st' H' v r → Q v H') (exW K w Xs st σ H)
def tA (K : PySem.W.Frag) (w : Wi) (ev : EvA) : TA := fun σ H Q => ∃ Xs st, Rel K Xs st σ H ∧ Rdo (ev st) (fun ds st' => ∀ vs H', Post K Xs st σ H st' H' → DqAll K (vis Xs st' σ H') vs ds → Q vs H') (exW K w Xs st σ H)
def tT (K : PySem.W.Frag) (w : Wi) (ev : EvT) : TT := fun σ H Q => ∃ Xs st, Rel K Xs st σ H ∧ Rdo (ev st) (fun b st' => ∀ H', Post K Xs st σ H st' H' → Q b H') (exW K w Xs st σ H)
theorem tE_mono {K : PySem.W.Frag} {w : Wi} {ev : EvE} {σ : L2.St} {H : Hp} {Q Q' : VK} (h : tE K w ev σ H Q) (hq : ∀ v H', Q v H' → Q' v H') : tE K w ev σ H Q' := by
  obtain ⟨Xs, st, r, h⟩ := h
  exact ⟨Xs, st, r, h.mono (fun a s k v H' p q => hq v H' (k v H' p q)) fun _ _ _ x => x⟩

section
variable {K : PySem.W.Frag} {w : Wi} {Xs : List Addr} {st : List Sl} {σ : L2.St} {H : Hp}
/-- an expression, then the rest -/
theorem tE_seq {β : Type} {ev : EvE} {f : R1 → List Sl → O β} {k : β → List Sl → Prop} {Q : VK} (rel : Rel K Xs st σ H) (h : Rdo ((ev st).bind f) k (exW K w Xs st σ H))
    (hq : ∀ v H1 r st1, Post K Xs st σ H st1 H1 → Val K Xs σ H st1 H1 v r → Rdo (f r st1) k (exW K w Xs st1 σ H1) → Q v H1) : tE K w ev σ H Q :=
  ⟨Xs, st, rel, (rdo_bind h).mono (fun r st1 g v H1 p q => hq v H1 r st1 p q (g.mono (fun _ _ x => x) fun _ _ _ x => exW_on p x)) fun _ _ _ x => x⟩
theorem tA_seq {β : Type} {ev : EvA} {f : List D → List Sl → O β} {k : β → List Sl → Prop} {Q : List V → Hp → Prop} (rel : Rel K Xs st σ H) (h : Rdo ((ev st).bind f) k (exW K w Xs st σ H))
    (hq : ∀ vs H1 ds st1, Post K Xs st σ H st1 H1 → DqAll K (vis Xs st1 σ H1) vs ds → Rdo (f ds st1) k (exW K w Xs st1 σ H1) → Q vs H1) : tA K w ev σ H Q :=
  ⟨Xs, st, rel, (rdo_bind h).mono (fun r st1 g v H1 p q => hq v H1 r st1 p q (g.mono (fun _ _ x => x) fun _ _ _ x => exW_on p x)) fun _ _ _ x => x⟩
theorem tT_seq {β : Type} {ev : EvT} {f : Bool → List Sl → O β} {k : β → List Sl → Prop} {Q : Bool → Hp → Prop} (rel : Rel K Xs st σ H) (h : Rdo ((ev st).bind f) k (exW K w Xs st σ H))
    (hq : ∀ b H1 st1, Post K Xs st σ H st1 H1 → Rdo (f b st1) k (exW K w Xs st1 σ H1) → Q b H1) : tT K w ev σ H Q :=
  ⟨Xs, st, rel, (rdo_bind h).mono (fun r st1 g H1 p => hq r H1 st1 p (g.mono (fun _ _ x => x) fun _ _ _ x => exW_on p x)) fun _ _ _ x => x⟩
end

/-! ### the judgements follow a weaker reading -/
theorem PE.of {X : Cx} {e : Expr} {t t' : TE} (h : PE X e t) (w : ∀ σ H Q, t' σ H Q → t σ H Q) : PE X e t' := ⟨fun pins s σ H Q I q => h.run pins s σ H Q I (w σ H Q q)⟩
theorem PT.of {X : Cx} {e : Expr} {t t' : TT} (h : PT X e t) (w : ∀ σ H Q, t' σ H Q → t σ H Q) : PT X e t' := ⟨fun pins s σ H Q I q => h.run pins s σ H Q I (w σ H Q q)⟩
theorem PW.of {X : Cx} {e : Expr} {t t' : TT} (h : PW X e t) (w : ∀ σ H Q, t' σ H Q → t σ H Q) : PW X e t' := ⟨fun wh pins s σ H Q I q => h.run wh pins s σ H Q I (w σ H Q q)⟩
theorem PA.of {X : Cx} {es : List Expr} {t t' : TA} (h : PA X es t) (w : ∀ σ H Q, t' σ H Q → t σ H Q) : PA X es t' := ⟨fun pos pins s σ H Q I q => h.run pos pins s σ H Q I (w σ H Q q)⟩
theorem PS.of {X : Cx} {e : Stmt} {t t' : TS} (h : PS X e t) (w : ∀ Dn σ H, t' Dn σ H → t Dn σ H) : PS X e t' := ⟨fun pins s σ H Dn I q => h.run pins s σ H Dn I (w Dn σ H q)⟩
theorem PSs.of {X : Cx} {e : List Stmt} {t t' : TS} (h : PSs X e t) (w : ∀ Dn σ H, t' Dn σ H → t Dn σ H) : PSs X e t' := ⟨fun pins s σ H Dn I q => h.run pins s σ H Dn I (w Dn σ H q)⟩

/-! ### the slots once more -/
theorem ownd_nil_r (l : List Sl) : ownd l [] = [] := by unfold ownd; split <;> simp_all
/-- a list is let go -/
theorem ownd_free : ∀ {st : List Sl} {σ : L2.St} {i : Nat} {ds : List D} {p : Addr} {d : D}, st[i]? = some (.ow ds) → σ[i]? = some (some (.ref p)) → (ownd st σ).Perm (p :: ownd (st.set i (.pu d)) σ)
  | s :: st, x :: σ, 0, ds, p, d, h1, h2 => by
    simp at h1 h2
    subst h1; subst h2
    exact List.Perm.refl _
  | s :: st, x :: σ, i + 1, ds, p, d, h1, h2 => by
    have ih := ownd_free (st := st) (σ := σ) (i := i) (ds := ds) (p := p) (d := d) (by simpa using h1) (by simpa using h2)
    show (ownd (s :: st) (x :: σ)).Perm (p :: ownd (s :: st.set i (.pu d)) (x :: σ))
    cases s with
    | un => exact ih
    | pu d => exact ih
    | ow ds =>
      cases x with
      | none => exact ih
      | some w =>
        cases w with
        | ref q => exact (List.Perm.cons q ih).trans (List.Perm.swap p q _)
        | _ => exact ih
  | [], _, _, _, _, _, h, _ => by simp at h
  | _ :: _, [], _, _, _, _, _, h => by simp at h
section
variable {K : PySem.W.Frag} {Xs : List Addr} {st : List Sl} {σ : L2.St} {H : Hp}
theorem hid_perm {st st' : List Sl} {l : List Addr} (h : (ownd st σ).Perm (l ++ ownd st' σ)) : (hid Xs st σ).Perm (l ++ hid Xs st' σ) := by
  show (ownd st σ ++ Xs).Perm (l ++ (ownd st' σ ++ Xs))
  rw [← List.append_assoc]
  exact h.append_right Xs
/-- an owned list is read as a value: from now on it is never written -/
theorem rel_free {i : Nat} {ds : List D} {p : Addr} (r : Rel K Xs st σ H) (h1 : st[i]? = some (.ow ds)) (h2 : σ[i]? = some (some (.ref p))) :
    Post K Xs st σ H (st.set i (.pu (.lst ds))) H ∧ Dq K (vis Xs (st.set i (.pu (.lst ds))) σ H) (.ref p) (.lst ds) := by
  have hp : (hid Xs st σ).Perm (p :: hid Xs (st.set i (.pu (.lst ds))) σ) := hid_perm (l := [p]) (ownd_free h1 h2)
  have nd : (p :: hid Xs (st.set i (.pu (.lst ds))) σ).Nodup := hp.nodup_iff.mp r.nd
  have ex : Ex (vis Xs st σ H) (vis Xs (st.set i (.pu (.lst ds))) σ H) := msk_sub fun a ha => hp.mem_iff.mpr (List.mem_cons_of_mem _ ha)
  obtain ⟨p', vs, e1, e2, e3⟩ := r.ow i ds h1
  have ep : p' = p := by rw [h2] at e1; cases e1; rfl
  subst ep
  have hn : p' ∉ hid Xs (st.set i (.pu (.lst ds))) σ := (List.nodup_cons.mp nd).1
  have hd : Dq K (vis Xs (st.set i (.pu (.lst ds))) σ H) (.ref p') (.lst ds) := .lst (by show msk _ H p' = _; rw [msk_out hn]; exact e2) (dpAll_mono ex e3)
  have hlt : i < st.length := (List.getElem?_eq_some_iff.mp h1).1
  refine ⟨⟨⟨by rw [List.length_set]; exact r.len, (List.nodup_cons.mp nd).2, fun j d hj => ?_, fun j es hj => ?_, r.xs⟩, ex, fun _ _ => Kp.refl _, fun _ h => h, fun j es hj => ?_⟩, hd⟩
  · by_cases e : i = j
    · subst e
      rw [List.getElem?_set_self hlt] at hj
      cases hj
      exact ⟨_, h2, hd⟩
    · rw [List.getElem?_set_ne e] at hj
      obtain ⟨v, q1, q2⟩ := r.pu j d hj
      exact ⟨v, q1, dp_mono ex q2⟩
  · by_cases e : i = j
    · subst e
      rw [List.getElem?_set_self hlt] at hj
      cases hj
    · rw [List.getElem?_set_ne e] at hj
      obtain ⟨q, vs, q1, q2, q3⟩ := r.ow j es hj
      exact ⟨q, vs, q1, q2, dpAll_mono ex q3⟩
  · by_cases e : i = j
    · subst e
      rw [List.getElem?_set_self hlt] at hj
      cases hj
    · rw [List.getElem?_set_ne e] at hj
      exact ⟨es, hj⟩
/-- a new object -/
theorem rel_new {p : Addr} {o : HO} (r : Rel K Xs st σ H) (hp : H p = none) : Post K Xs st σ H st (upd H p o) := by
  have ne : ∀ a, H a ≠ none → a ≠ p := fun a h e => h (by rw [e]; exact hp)
  have ex : Ex (vis Xs st σ H) (vis Xs st σ (upd H p o)) := ex_new hp
  refine ⟨⟨r.len, r.nd, fun i d h => ?_, fun i ds h => ?_, r.xs.eq fun x hx => upd_ne (ne x (r.xs.ne x hx))⟩, ex, fun x hx => .inl (upd_ne (ne x (r.xs.ne x hx))), fun a h => ?_, OwLess.refl _⟩
  · obtain ⟨v, q1, q2⟩ := r.pu i d h
    exact ⟨v, q1, dp_mono ex q2⟩
  · obtain ⟨q, vs, q1, q2, q3⟩ := r.ow i ds h
    exact ⟨q, vs, q1, by rw [upd_ne (ne q (by rw [q2]; simp))]; exact q2, dpAll_mono ex q3⟩
  · by_cases e : a = p
    · rw [e]; exact hp
    · rw [upd_ne e] at h; exact h
/-- what is out of sight or free is no value -/
theorem rel_ownd {p : Addr} (r : Rel K Xs st σ H) (h : p ∈ ownd st σ) : ∃ vs, H p = some (.lst vs) := by
  obtain ⟨i, ds, h1, h2⟩ := ownd_of h
  obtain ⟨q, vs, e1, e2, _⟩ := r.ow i ds h1
  rw [h2] at e1
  cases e1
  exact ⟨vs, e2⟩
theorem rel_hid {p : Addr} (r : Rel K Xs st σ H) (h : H p = none) : p ∉ hid Xs st σ := fun hm => by
  rcases List.mem_append.mp hm with hm | hm
  · obtain ⟨vs, e⟩ := rel_ownd r hm
    rw [h] at e; cases e
  · exact r.xs.ne p hm h
/-- a new list's value -/
theorem val_newL {p : Addr} {vs : List V} {ds : List D} (r : Rel K Xs st σ H) (hp : H p = none) (h : DqAll K (vis Xs st σ H) vs ds) : Val K Xs σ H st (upd H p (.lst vs)) (.ref p) (.lst ds, true) := by
  have hn := rel_hid r hp
  have P := rel_new (o := .lst vs) r hp
  have ex2 : Ex (vis Xs st σ H) (vis (p :: Xs) st σ (upd H p (.lst vs))) := fun a o e => by
    obtain ⟨n, e⟩ := msk_some e
    have ap : a ≠ p := fun z => by rw [z, hp] at e; cases e
    show msk (ownd st σ ++ p :: Xs) _ a = _
    rw [msk_out, upd_ne ap, e]
    intro hm
    rcases List.mem_append.mp hm with hm | hm
    · exact n (List.mem_append_left _ hm)
    · rcases List.mem_cons.mp hm with hm | hm
      · exact ap hm
      · exact n (List.mem_append_right _ hm)
  refine ⟨.lst (by show msk _ _ p = _; rw [msk_out hn, upd_same]) (dpAll_mono P.ex h), fun _ => ⟨p, vs, ds, rfl, rfl, hp, upd_same, dpAll_mono ex2 h, ?_⟩⟩
  refine ⟨r.len, ?_, fun i d e => ?_, fun i es e => ?_, (r.xs.eq fun x hx => upd_ne fun z => r.xs.ne x hx (by rw [z]; exact hp)).cons (by rw [upd_same]; simp)⟩
  · show (ownd st σ ++ p :: Xs).Nodup
    have e : (ownd st σ ++ p :: Xs).Perm (p :: (ownd st σ ++ Xs)) := List.perm_middle
    exact e.nodup_iff.mpr (List.nodup_cons.mpr ⟨hn, r.nd⟩)
  · obtain ⟨v, q1, q2⟩ := r.pu i d e
    exact ⟨v, q1, dp_mono ex2 q2⟩
  · obtain ⟨q, us, q1, q2, q3⟩ := r.ow i es e
    exact ⟨q, us, q1, by rw [upd_ne fun z => by rw [z, hp] at q2; cases q2]; exact q2, dpAll_mono ex2 q3⟩
theorem val_newT {p : Addr} {vs : List V} {ds : List D} (r : Rel K Xs st σ H) (hp : H p = none) (h : DqAll K (vis Xs st σ H) vs ds) : Val K Xs σ H st (upd H p (.tup vs)) (.ref p) (.tup ds, false) := by
  have hn := rel_hid r hp
  have P := rel_new (o := .tup vs) r hp
  exact .old (.tup (.inl (.inl (by show msk _ _ p = _; rw [msk_out hn, upd_same]))) (dpAll_mono P.ex h))
end

/-! ### names and constants -/
def eVar (i : Nat) : EvE := fun st => match st[i]? with
  | some (.pu d) => .ok (d, false) st
  | some (.ow ds) => .ok (.lst ds, false) (st.set i (.pu (.lst ds)))
  | _ => .no
def eC (d : D) : EvE := fun st => .ok (d, false) st
section
variable {X : Cx} {w : Wi} {pos : Pos}
theorem x_var (i : Nat) {x : Str} (hN : X.N[i]? = some x := by rfl) (hv : Vis X.env.scope x := by first | exact Or.inl rfl | exact Or.inr (Or.inl rfl) | exact Or.inr (Or.inr rfl)) (hd : (x == ("__debug__" : Str)) = false := by decide)
    (hcd : (x == ("__classdict__" : Str)) = false := by decide) : PE X (.Name x pos) (tE X.K w (eVar i)) := by
  refine PE.of (pe_var hN hv hd hcd) fun σ H Q h => ?_
  obtain ⟨Xs, st, r, h⟩ := h
  unfold eVar at h
  split at h
  · next d e =>
    obtain ⟨v, e1, e2⟩ := r.pu i d e
    exact ⟨v, e1, h v H (Post.refl r) (.old e2)⟩
  · next ds e =>
    obtain ⟨p, vs, e1, e2, e3⟩ := r.ow i ds e
    obtain ⟨q1, q2⟩ := rel_free r e e1
    exact ⟨.ref p, e1, h _ H q1 (.old q2)⟩
  · exact h.elim
theorem x_const {e : Expr} {v : V} {d : D} (h : PE X e (tC v)) (hd : ∀ H, Dq X.K H v d) : PE X e (tE X.K w (eC d)) := by
  refine PE.of h fun σ H Q h => ?_
  obtain ⟨Xs, st, r, h⟩ := h
  exact h v H (Post.refl r) (.old (hd _))
theorem x_int {i : Int} {j : Nat} : PE X (.Constant (.int i) j pos) (tE X.K w (eC (.int i))) := x_const pe_int fun _ => .int i
theorem x_bl {b : Bool} {j : Nat} : PE X (.Constant (.bool b) j pos) (tE X.K w (eC (.bl b))) := x_const pe_bl fun _ => .bl b
theorem x_non {j : Nat} : PE X (.Constant .none j pos) (tE X.K w (eC .non)) := x_const pe_non fun _ => .non
theorem x_str {x : Str} {j : Nat} : PE X (.Constant (.str x) j pos) (tE X.K w (eC (.str x))) := x_const pe_str fun _ => .str x
theorem x_glob {x : Str} {v : V} {u : Value} {d : D} (hm : X.mg x = some u) (r : RelV v u) (hd : ∀ H, Dq X.K H v d) (hg : Gl X x := by rfl) (hdb : (x == ("__debug__" : Str)) = false := by decide) : PE X (.Name x pos) (tE X.K w (eC d)) := x_const (pe_glob hg hm r hdb) hd
end

/-! ### operators -/
def eBin (f : D → D → Option R1) (a b : EvE) : EvE := fun st => (a st).bind fun x st1 => (b st1).bind fun y st2 => match f x.1 y.1 with
  | some z => .ok z st2
  | none => .no
def eUn (f : D → Option R1) (a : EvE) : EvE := fun st => (a st).bind fun x st1 => match f x.1 with
  | some z => .ok z st1
  | none => .no
/-- an operator's rule by trees -/
def OpS (K : PySem.W.Frag) (r : R2) (f : D → D → Option R1) : Prop := ∀ (Xs : List Addr) (st : List Sl) (σ : L2.St) (H : Hp) (x y : V) (dx dy : D) (z : R1) (Q : VK), Rel K Xs st σ H → Dq K (vis Xs st σ H) x dx → Dq K (vis Xs st σ H) y dy → f dx dy = some z →
  (∀ v H', Post K Xs st σ H st H' → Val K Xs σ H st H' v z → Q v H') → r x y H Q
def UnS (K : PySem.W.Frag) (r : V → Hp → VK → Prop) (f : D → Option R1) : Prop := ∀ (Xs : List Addr) (st : List Sl) (σ : L2.St) (H : Hp) (x : V) (dx : D) (z : R1) (Q : VK), Rel K Xs st σ H → Dq K (vis Xs st σ H) x dx → f dx = some z →
  (∀ v H', Post K Xs st σ H st H' → Val K Xs σ H st H' v z → Q v H') → r x H Q
theorem tOp_of {K : PySem.W.Frag} {w : Wi} {r : R2} {f : D → D → Option R1} {ea eb : EvE} (ho : OpS K r f) {σ : L2.St} {H : Hp} {Q : VK} (h : tE K w (eBin f ea eb) σ H Q) : tOp r (tE K w ea) (tE K w eb) σ H Q := by
  obtain ⟨Xs, st, rel, h⟩ := h
  refine tE_seq rel h fun x H1 rx st1 p1 v1 h1 => ?_
  refine tE_seq p1.rel h1 fun y H2 ry st2 p2 v2 h2 => ?_
  split at h2
  · next z ez =>
    refine ho Xs st2 σ H2 x y rx.1 ry.1 z Q p2.rel (dp_mono p2.ex v1.dp) v2.dp ez fun v H' p3 v3 => ?_
    exact h2 v H' ((p1.trans p2).trans p3) (.of (p1.trans p2) v3)
  · exact h2.elim
theorem tUn_of {K : PySem.W.Frag} {w : Wi} {r : V → Hp → VK → Prop} {f : D → Option R1} {ea : EvE} (ho : UnS K r f) {σ : L2.St} {H : Hp} {Q : VK} (h : tE K w (eUn f ea) σ H Q) : tUn r (tE K w ea) σ H Q := by
  obtain ⟨Xs, st, rel, h⟩ := h
  refine tE_seq rel h fun x H1 rx st1 p1 v1 h1 => ?_
  split at h1
  · next z ez => exact ho Xs st1 σ H1 x rx.1 z Q p1.rel v1.dp ez fun v H' p3 v3 => h1 v H' (p1.trans p3) (.of p1 v3)
  · exact h1.elim
section
variable {X : Cx} {w : Wi} {pos : Pos} {a b : Expr} {ea eb : EvE} {r : R2} {f : D → D → Option R1}
theorem x_bin {op : Operator} (ho : OpR X (binaryOp op) r) (hs : OpS X.K r f) (ha : PE X a (tE X.K w ea)) (hb : PE X b (tE X.K w eb)) : PE X (.BinOp a op b pos) (tE X.K w (eBin f ea eb)) :=
  PE.of (pe_op ho ha hb) fun σ H Q h => tOp_of hs h
theorem x_cmp {op : CmpOp} (ho : OpR X (compareOp op) r) (hs : OpS X.K r f) (ha : PE X a (tE X.K w ea)) (hb : PE X b (tE X.K w eb)) (hm : behindInMarks op b = false := by first | exact nomark _ | rfl) : PE X (.Compare a [op] [b] pos) (tE X.K w (eBin f ea eb)) :=
  PE.of (pe_cmpR ho ha hb hm) fun σ H Q h => tOp_of hs h
theorem x_un {op : UnaryOp} {r : V → Hp → VK → Prop} {f : D → Option R1} (ho : UnR X (unaryOp op) r) (hs : UnS X.K r f) (ha : PE X a (tE X.K w ea)) : PE X (.UnaryOp op a pos) (tE X.K w (eUn f ea)) :=
  PE.of (pe_un ho ha) fun σ H Q h => tUn_of hs h
theorem x_ix {r : R2} (hr : IxR X r) (hs : OpS X.K r f) (ha : PE X a (tE X.K w ea)) (hb : PE X b (tE X.K w eb)) (hp : PlainIx b := by exact fun _ _ => rfl) : PE X (.Subscript a b pos) (tE X.K w (eBin f ea eb)) :=
  PE.of (pe_ix hr ha hb hp) fun σ H Q h => tOp_of hs h
end
end TX

end

section
set_option Elab.async false
set_option linter.all false
set_option maxRecDepth 100000
set_option maxHeartbeats 2000000
namespace TX
open PySem L2 Evl PyProof.Rows

theorem b_true (b : Bool) : (b == true) = b := by cases b <;> rfl
theorem b_false (b : Bool) : (b == false) = !b := by cases b <;> rfl
/-! ### operators on trees -/
section
variable {K : PySem.W.Frag}
theorem ops_or {r r' : R2} {f g : D → D → Option R1} (h1 : OpS K r f) (h2 : OpS K r' g) : OpS K (fun x y H Q => r x y H Q ∨ r' x y H Q) (fun x y => match f x y with | some z => some z | none => g x y) := by
  intro Xs st σ H x y dx dy z Q rel hx hy hz hq
  revert hz
  show (match f dx dy with | some z => some z | none => g dx dy) = some z → _
  cases e : f dx dy with
  | some z' =>
    intro hz
    have hz' : some z' = some z := hz
    cases hz'
    exact Or.inl (h1 Xs st σ H x y dx dy z Q rel hx hy e hq)
  | none => exact fun hz => Or.inr (h2 Xs st σ H x y dx dy z Q rel hx hy hz hq)
/-- whole numbers -/
def fI (c : Int → Int → Bool) (g : Int → Int → D) : D → D → Option R1 := fun x y => match x, y with
  | .int i, .int j => if c i j then some (g i j, false) else none
  | _, _ => none
theorem ops_i {C : Int → Int → Prop} {c : Int → Int → Bool} {g : Int → Int → D} {gv : Int → Int → V} (hc : ∀ i j, c i j = true → C i j) (hg : ∀ H i j, Dq K H (gv i j) (g i j)) : OpS K (rI C gv) (fI c g) := by
  intro Xs st σ H x y dx dy z Q rel hx hy hz hq
  unfold fI at hz
  split at hz
  · next i j =>
    split at hz
    · next h =>
      cases hz
      cases hx
      cases hy
      exact ⟨i, j, rfl, rfl, hc i j h, hq _ H (Post.refl rel) (.old (hg _ i j))⟩
    · cases hz
  · cases hz
def fI0 (g : Int → Int → D) : D → D → Option R1 := fun x y => match x, y with
  | .int i, .int j => some (g i j, false)
  | _, _ => none
theorem ops_i0 {g : Int → Int → D} {gv : Int → Int → V} (hg : ∀ H i j, Dq K H (gv i j) (g i j)) : OpS K (rI0 gv) (fI0 g) := by
  intro Xs st σ H x y dx dy z Q rel hx hy hz hq
  unfold fI0 at hz
  split at hz
  · next i j =>
    cases hz
    cases hx
    cases hy
    exact ⟨i, j, rfl, rfl, hq _ H (Post.refl rel) (.old (hg _ i j))⟩
  · cases hz
/-- texts -/
def fS (g : Str → Str → D) : D → D → Option R1 := fun x y => match x, y with
  | .str i, .str j => some (g i j, false)
  | _, _ => none
theorem ops_s {g : Str → Str → D} {gv : Str → Str → V} (hg : ∀ H i j, Dq K H (gv i j) (g i j)) : OpS K (fun x y H Q => ∃ i j, x = .str i ∧ y = .str j ∧ Q (gv i j) H) (fS g) := by
  intro Xs st σ H x y dx dy z Q rel hx hy hz hq
  unfold fS at hz
  split at hz
  · next i j =>
    cases hz
    cases hx
    cases hy
    exact ⟨i, j, rfl, rfl, hq _ H (Post.refl rel) (.old (hg _ i j))⟩
  · cases hz
/-- two lists, a new one -/
def fCat : D → D → Option R1 := fun x y => match x, y with
  | .lst a, .lst b => if a.length + b.length ≤ 100000 then some (.lst (a ++ b), true) else none
  | _, _ => none
theorem ops_cat : OpS K rCat fCat := by
  intro Xs st σ H x y dx dy z Q rel hx hy hz hq
  unfold fCat at hz
  split at hz
  · next a b =>
    split at hz
    · next h =>
      cases hz
      cases hx with
      | lst h1 q1 =>
        cases hy with
        | lst h2 q2 =>
          refine ⟨_, _, _, _, rfl, rfl, msk_ex _ _ h1, msk_ex _ _ h2, ?_, fun p hp => hq _ _ (rel_new rel hp) (val_newL rel hp (dpAll_append q1 q2))⟩
          rw [dpAll_len q1, dpAll_len q2]
          exact sz_of h
    · cases hz
  · cases hz
/-- two tuples -/
def fCatT : D → D → Option R1 := fun x y => match x, y with
  | .tup a, .tup b => if a.length + b.length ≤ 100000 then some (.tup (a ++ b), false) else none
  | _, _ => none
theorem ops_catT : OpS K (rCatA K) fCatT := by
  intro Xs st σ H x y dx dy z Q rel hx hy hz hq
  unfold fCatT at hz
  split at hz
  · next a b =>
    split at hz
    · next h =>
      cases hz
      cases hx with
      | tup h1 q1 =>
        cases hy with
        | tup h2 q2 =>
          rename_i a1 xs1 a2 xs2
          refine ⟨_, _, _, _, rfl, rfl, ex_t msk_ex h1, ex_t msk_ex h2, ?_, fun e => ?_, fun e e2 => ?_, fun _ _ p hp => hq _ _ (rel_new rel hp) (val_newT rel hp (dpAll_append q1 q2))⟩
          · rw [dpAll_len q1, dpAll_len q2]
            exact sz_of h
          · subst e
            cases q1
            exact hq _ H (Post.refl rel) (.old (.tup h2 (by simpa using q2)))
          · subst e2
            cases q2
            exact hq _ H (Post.refl rel) (.old (.tup h1 (by simpa using q1)))
    · cases hz
  · cases hz
/-- a list times a number -/
def fRep : D → D → Option R1 := fun x y => match x, y with
  | .lst a, .int k => if k ≤ 100000 ∧ -100000 ≤ k ∧ a.length * k.toNat ≤ 100000 then some (.lst (List.replicate k.toNat a).flatten, true) else none
  | _, _ => none
theorem dpAll_rep {H : Hp} {vs : List V} {ds : List D} (h : DqAll K H vs ds) : ∀ n : Nat, DqAll K H (List.replicate n vs).flatten (List.replicate n ds).flatten
  | 0 => .nil
  | n + 1 => by
    rw [List.replicate_succ, List.replicate_succ, List.flatten_cons, List.flatten_cons]
    exact dpAll_append h (dpAll_rep h n)
theorem ops_rep : OpS K rRep fRep := by
  intro Xs st σ H x y dx dy z Q rel hx hy hz hq
  unfold fRep at hz
  split at hz
  · next a k =>
    split at hz
    · next h =>
      cases hz
      cases hy
      cases hx with
      | lst h1 q1 =>
        refine ⟨_, _, _, rfl, rfl, msk_ex _ _ h1, by omega, by omega, ?_, fun p hp => hq _ _ (rel_new rel hp) (val_newL rel hp (dpAll_rep q1 _))⟩
        rw [dpAll_len q1]
        exact sz_of h.2.2
    · cases hz
  · cases hz
/-- == and != -/
def fEq (b : Bool) : D → D → Option R1 := fun x y => if SeqAt.shaped x.toP && SeqAt.shaped y.toP then some (.bl (PyData.eqv x.toP y.toP == b), false) else none
theorem ops_eq : OpS K (rEqD K) (fEq true) := by
  intro Xs st σ H x y dx dy z Q rel hx hy hz hq
  unfold fEq at hz
  split at hz
  · next h =>
    cases hz
    rw [Bool.and_eq_true] at h
    refine ⟨dx.toP, dy.toP, (dp_mono msk_ex hx).dp (SeqAt.canLay_of_shaped h.1), (dp_mono msk_ex hy).dp (SeqAt.canLay_of_shaped h.2), h.1, h.2, hq _ H (Post.refl rel) (.old ?_)⟩
    show Dq K _ (V.bl _) (D.bl (PyData.eqv dx.toP dy.toP == true))
    rw [b_true]
    exact .bl _
  · cases hz
theorem ops_ne : OpS K (rNeD K) (fEq false) := by
  intro Xs st σ H x y dx dy z Q rel hx hy hz hq
  unfold fEq at hz
  split at hz
  · next h =>
    cases hz
    rw [Bool.and_eq_true] at h
    refine ⟨dx.toP, dy.toP, (dp_mono msk_ex hx).dp (SeqAt.canLay_of_shaped h.1), (dp_mono msk_ex hy).dp (SeqAt.canLay_of_shaped h.2), h.1, h.2, hq _ H (Post.refl rel) (.old ?_)⟩
    show Dq K _ (V.bl _) (D.bl (PyData.eqv dx.toP dy.toP == false))
    rw [b_false]
    exact .bl _
  · cases hz
/-- is None -/
def D.isNon : D → Bool
  | .non => true
  | _ => false
theorem dq_non {H : Hp} {v : V} {d : D} (h : Dq K H v d) : decide (v = .non) = d.isNon := by
  cases h <;> simp [D.isNon]
def fIs (b : Bool) : D → D → Option R1 := fun x y => match y with
  | .non => some (.bl (x.isNon == b), false)
  | _ => none
theorem ops_is : OpS K (fun x y H Q => y = .non ∧ Q (.bl (decide (x = .non))) H) (fIs true) := by
  intro Xs st σ H x y dx dy z Q rel hx hy hz hq
  unfold fIs at hz
  split at hz
  · cases hz
    cases hy
    refine ⟨rfl, hq _ H (Post.refl rel) (.old ?_)⟩
    show Dq K _ (V.bl _) (D.bl (dx.isNon == true))
    rw [dq_non hx, b_true]
    exact .bl _
  · cases hz
theorem ops_isnt : OpS K (fun x y H Q => y = .non ∧ Q (.bl (!decide (x = .non))) H) (fIs false) := by
  intro Xs st σ H x y dx dy z Q rel hx hy hz hq
  unfold fIs at hz
  split at hz
  · cases hz
    cases hy
    refine ⟨rfl, hq _ H (Post.refl rel) (.old ?_)⟩
    show Dq K _ (V.bl _) (D.bl (dx.isNon == false))
    rw [dq_non hx, b_false]
    exact .bl _
  · cases hz
/-- in a tuple -/
def rInT (K : PySem.W.Frag) : R2 := fun x y H Q => ∃ d ds, Dp K H x d ∧ Dp K H y (.tuple ds) ∧ SeqAt.shaped d = true ∧ SeqAt.shaped (.tuple ds) = true ∧ Q (.bl (ds.any fun z => PyData.eqv z d)) H
def rNotInT (K : PySem.W.Frag) : R2 := fun x y H Q => ∃ d ds, Dp K H x d ∧ Dp K H y (.tuple ds) ∧ SeqAt.shaped d = true ∧ SeqAt.shaped (.tuple ds) = true ∧ Q (.bl (!ds.any fun z => PyData.eqv z d)) H
theorem op_inT {X : Cx} (hu : X.A.units + 65 < cLine) : OpR X (compareOp .In) (rInT X.K) := by
  intro pins s σ H x y v u Q I rx ry h
  obtain ⟨d, ds, hd, he, sd, se, q⟩ := h
  obtain ⟨as, r1⟩ := Dp.reads I d x v hd rx
  obtain ⟨bs, r2⟩ := Dp.reads I (.tuple ds) y u he ry
  exact SeqAt.in_tuple_reads r2 r1 (SeqAt.canLay_of_shaped se) (SeqAt.canLay_of_shaped sd) (room_in_shaped sd hu) ⟨.bl _, H, I, rfl, q⟩
theorem op_notInT {X : Cx} (hu : X.A.units + 65 < cLine) : OpR X (compareOp .NotIn) (rNotInT X.K) := by
  intro pins s σ H x y v u Q I rx ry h
  obtain ⟨d, ds, hd, he, sd, se, q⟩ := h
  obtain ⟨as, r1⟩ := Dp.reads I d x v hd rx
  obtain ⟨bs, r2⟩ := Dp.reads I (.tuple ds) y u he ry
  exact SeqAt.notIn_tuple_reads r2 r1 (SeqAt.canLay_of_shaped se) (SeqAt.canLay_of_shaped sd) (room_in_shaped sd hu) ⟨.bl _, H, I, rfl, q⟩
/-- in a list or a tuple -/
def fIn (b : Bool) : D → D → Option R1 := fun x y => match y with
  | .lst ds => if SeqAt.shaped x.toP && SeqAt.shaped (D.lst ds).toP then some (.bl ((ds.any fun z => PyData.eqv z.toP x.toP) == b), false) else none
  | .tup ds => if SeqAt.shaped x.toP && SeqAt.shaped (D.tup ds).toP then some (.bl ((ds.any fun z => PyData.eqv z.toP x.toP) == b), false) else none
  | _ => none
theorem any_toP (p : PyData → Bool) : ∀ ds : List D, (D.toPs ds).any p = ds.any fun z => p z.toP
  | [] => rfl
  | d :: ds => by show (d.toP :: D.toPs ds).any p = _; rw [List.any_cons, List.any_cons, any_toP p ds]
theorem ops_in : OpS K (fun x y H Q => rInD K x y H Q ∨ rInT K x y H Q) (fIn true) := by
  intro Xs st σ H x y dx dy z Q rel hx hy hz hq
  unfold fIn at hz
  split at hz
  · next ds =>
    split at hz
    · next h =>
      cases hz
      rw [Bool.and_eq_true] at h
      refine .inl ⟨dx.toP, D.toPs ds, (dp_mono msk_ex hx).dp (SeqAt.canLay_of_shaped h.1), (dp_mono msk_ex hy).dp (SeqAt.canLay_of_shaped h.2), h.1, h.2, hq _ H (Post.refl rel) (.old ?_)⟩
      show Dq K _ (V.bl _) (D.bl ((ds.any fun z => PyData.eqv z.toP dx.toP) == true))
      rw [any_toP, b_true]
      exact .bl _
    · cases hz
  · next ds =>
    split at hz
    · next h =>
      cases hz
      rw [Bool.and_eq_true] at h
      refine .inr ⟨dx.toP, D.toPs ds, (dp_mono msk_ex hx).dp (SeqAt.canLay_of_shaped h.1), (dp_mono msk_ex hy).dp (SeqAt.canLay_of_shaped h.2), h.1, h.2, hq _ H (Post.refl rel) (.old ?_)⟩
      show Dq K _ (V.bl _) (D.bl ((ds.any fun z => PyData.eqv z.toP dx.toP) == true))
      rw [any_toP, b_true]
      exact .bl _
    · cases hz
  · cases hz
theorem ops_nin : OpS K (fun x y H Q => rNotInD K x y H Q ∨ rNotInT K x y H Q) (fIn false) := by
  intro Xs st σ H x y dx dy z Q rel hx hy hz hq
  unfold fIn at hz
  split at hz
  · next ds =>
    split at hz
    · next h =>
      cases hz
      rw [Bool.and_eq_true] at h
      refine .inl ⟨dx.toP, D.toPs ds, (dp_mono msk_ex hx).dp (SeqAt.canLay_of_shaped h.1), (dp_mono msk_ex hy).dp (SeqAt.canLay_of_shaped h.2), h.1, h.2, hq _ H (Post.refl rel) (.old ?_)⟩
      show Dq K _ (V.bl _) (D.bl ((ds.any fun z => PyData.eqv z.toP dx.toP) == false))
      rw [any_toP, b_false]
      exact .bl _
    · cases hz
  · next ds =>
    split at hz
    · next h =>
      cases hz
      rw [Bool.and_eq_true] at h
      refine .inr ⟨dx.toP, D.toPs ds, (dp_mono msk_ex hx).dp (SeqAt.canLay_of_shaped h.1), (dp_mono msk_ex hy).dp (SeqAt.canLay_of_shaped h.2), h.1, h.2, hq _ H (Post.refl rel) (.old ?_)⟩
      show Dq K _ (V.bl _) (D.bl ((ds.any fun z => PyData.eqv z.toP dx.toP) == false))
      rw [any_toP, b_false]
      exact .bl _
    · cases hz
  · cases hz
/-- an item -/
def fIx : D → D → Option R1 := fun x y => match x, y with
  | .tup ds, .int i => (atI ds i).map (·, false)
  | .lst ds, .int i => (atI ds i).map (·, false)
  | .scr ns, .int i => (atI ns i).map fun n => (.int n, false)
  | _, _ => none
theorem atI_get {H : Hp} {vs : List V} {ds : List D} {i : Int} {d : D} (h : DqAll K H vs ds) (e : atI ds i = some d) : ∃ v, atI vs i = some v ∧ Dq K H v d := by
  unfold atI at e ⊢
  rw [dpAll_len h]
  cases e1 : ixN ds.length i with
  | none => rw [e1] at e; cases e
  | some j =>
    rw [e1] at e
    exact dpAll_getD h e
theorem atI_map {α β : Type} (f : α → β) (xs : List α) (i : Int) : atI (xs.map f) i = (atI xs i).map f := by
  unfold atI
  rw [List.length_map]
  cases ixN xs.length i with
  | none => rfl
  | some j => show (xs.map f)[j]? = (xs[j]?).map f; rw [List.getElem?_map]
theorem ops_ix : OpS K (rIx K) fIx := by
  intro Xs st σ H x y dx dy z Q rel hx hy hz hq
  unfold fIx at hz
  split at hz
  · next ds i =>
    cases e : atI ds i with
    | none => rw [e] at hz; cases hz
    | some d =>
      rw [e] at hz
      cases hz
      cases hy
      cases hx with
      | tup h1 q1 =>
        obtain ⟨v, e1, e2⟩ := atI_get q1 e
        exact .inr (.inl ⟨_, _, _, v, rfl, rfl, ex_t msk_ex h1, e1, hq v H (Post.refl rel) (.old e2)⟩)
  · next ds i =>
    cases e : atI ds i with
    | none => rw [e] at hz; cases hz
    | some d =>
      rw [e] at hz
      cases hz
      cases hy
      cases hx with
      | lst h1 q1 =>
        obtain ⟨v, e1, e2⟩ := atI_get q1 e
        exact .inl ⟨_, _, _, v, rfl, rfl, SqL.of (msk_ex _ _ h1), e1, hq v H (Post.refl rel) (.old e2)⟩
  · next ns i =>
    cases e : atI ns i with
    | none => rw [e] at hz; cases hz
    | some n =>
      rw [e] at hz
      cases hz
      cases hy
      cases hx with
      | scr h1 =>
        refine .inl ⟨_, ns.map V.int, _, V.int n, rfl, rfl, ex_l msk_ex h1, ?_, hq _ H (Post.refl rel) (.old (.int n))⟩
        rw [atI_map, e]
        rfl
  · cases hz
end

section
variable {X : Cx}
theorem op_fdivX : OpR X (binaryOp .FloorDiv) (rI (fun _ j => j ≠ 0 ∧ j.natAbs.log2 < 9000) fun i j => .int (i.fdiv j)) := opI fun i j _ _ _ _ _ hc q => floordiv_int hc.1 q (.inl (PyProof.noPylong_of_log2 hc.2))
end
def fAdd : D → D → Option R1 := fun x y => match fI0 (fun i j => .int (i + j)) x y with
  | some z => some z
  | none => match fCat x y with
    | some z => some z
    | none => fCatT x y
def fSub : D → D → Option R1 := fI0 fun i j => .int (i - j)
def fMul : D → D → Option R1 := fun x y => match fI (fun i j => decide (i.natAbs.log2 + j.natAbs.log2 < 1000000)) (fun i j => .int (i * j)) x y with
  | some z => some z
  | none => fRep x y
def fDiv : D → D → Option R1 := fI (fun _ j => decide (j ≠ 0 ∧ j.natAbs.log2 < 9000)) fun i j => .int (i.fdiv j)
def fMod : D → D → Option R1 := fI (fun _ j => decide (j ≠ 0)) fun i j => .int (i.fmod j)
def fPow : D → D → Option R1 := fI (fun i j => decide (0 ≤ j ∧ j ≤ 1000000 ∧ i.natAbs < 2 ^ 64)) fun i j => .int (i ^ j.toNat)
def fLt : D → D → Option R1 := fun x y => match fI0 (fun i j => .bl (decide (i < j))) x y with
  | some z => some z
  | none => fS (fun i j => .bl (decide (i.cps.toList < j.cps.toList))) x y
def fLe : D → D → Option R1 := fI0 fun i j => .bl (decide (i ≤ j))
def fGt : D → D → Option R1 := fI0 fun i j => .bl (decide (j < i))
def fGe : D → D → Option R1 := fI0 fun i j => .bl (decide (j ≤ i))
def fNeg : D → Option R1 := fun x => match x with
  | .int i => some (.int (-i), false)
  | _ => none
section
variable {X : Cx} {w : Wi} {pos : Pos} {a b : Expr} {ea eb : EvE}
theorem x_add (ha : PE X a (tE X.K w ea)) (hb : PE X b (tE X.K w eb)) : PE X (.BinOp a .Add b pos) (tE X.K w (eBin fAdd ea eb)) :=
  x_bin (OpR.or op_add (OpR.or op_cat op_catA)) (ops_or (ops_i0 fun _ _ _ => .int _) (ops_or ops_cat ops_catT)) ha hb
theorem x_sub (ha : PE X a (tE X.K w ea)) (hb : PE X b (tE X.K w eb)) : PE X (.BinOp a .Sub b pos) (tE X.K w (eBin fSub ea eb)) := x_bin op_sub (ops_i0 fun _ _ _ => .int _) ha hb
theorem x_mul (ha : PE X a (tE X.K w ea)) (hb : PE X b (tE X.K w eb)) : PE X (.BinOp a .Mult b pos) (tE X.K w (eBin fMul ea eb)) :=
  x_bin (OpR.or op_mulW op_rep) (ops_or (ops_i (fun i j h => show CMulW i j from of_decide_eq_true (p := i.natAbs.log2 + j.natAbs.log2 < 1000000) h) fun _ _ _ => .int _) ops_rep) ha hb
theorem x_div (ha : PE X a (tE X.K w ea)) (hb : PE X b (tE X.K w eb)) : PE X (.BinOp a .FloorDiv b pos) (tE X.K w (eBin fDiv ea eb)) := x_bin op_fdivX (ops_i (fun _ _ h => of_decide_eq_true h) fun _ _ _ => .int _) ha hb
theorem x_mod (ha : PE X a (tE X.K w ea)) (hb : PE X b (tE X.K w eb)) : PE X (.BinOp a .Mod b pos) (tE X.K w (eBin fMod ea eb)) := x_bin op_modN (ops_i (fun _ _ h => of_decide_eq_true h) fun _ _ _ => .int _) ha hb
theorem x_pow (ha : PE X a (tE X.K w ea)) (hb : PE X b (tE X.K w eb)) : PE X (.BinOp a .Pow b pos) (tE X.K w (eBin fPow ea eb)) := x_bin op_pow (ops_i (fun i j h => show CPow i j from of_decide_eq_true (p := 0 ≤ j ∧ j ≤ 1000000 ∧ i.natAbs < 2 ^ 64) h) fun _ _ _ => .int _) ha hb
theorem x_neg (ha : PE X a (tE X.K w ea)) : PE X (.UnaryOp .USub a pos) (tE X.K w (eUn fNeg ea)) := x_un un_neg (fun Xs st σ H x dx z Q rel hx hz hq => by
  unfold fNeg at hz
  split at hz
  · next i =>
    cases hz
    cases hx
    exact ⟨i, rfl, hq _ H (Post.refl rel) (.old (.int _))⟩
  · cases hz) ha
theorem x_lt (ha : PE X a (tE X.K w ea)) (hb : PE X b (tE X.K w eb)) : PE X (.Compare a [.Lt] [b] pos) (tE X.K w (eBin fLt ea eb)) := x_cmp (OpR.or op_lt op_lt_str) (ops_or (ops_i0 fun _ _ _ => .bl _) (ops_s fun _ _ _ => .bl _)) ha hb
theorem x_le (ha : PE X a (tE X.K w ea)) (hb : PE X b (tE X.K w eb)) : PE X (.Compare a [.LtE] [b] pos) (tE X.K w (eBin fLe ea eb)) := x_cmp op_le (ops_i0 fun _ _ _ => .bl _) ha hb
theorem x_gt (ha : PE X a (tE X.K w ea)) (hb : PE X b (tE X.K w eb)) : PE X (.Compare a [.Gt] [b] pos) (tE X.K w (eBin fGt ea eb)) := x_cmp op_gt (ops_i0 fun _ _ _ => .bl _) ha hb
theorem x_ge (ha : PE X a (tE X.K w ea)) (hb : PE X b (tE X.K w eb)) : PE X (.Compare a [.GtE] [b] pos) (tE X.K w (eBin fGe ea eb)) := x_cmp op_ge (ops_i0 fun _ _ _ => .bl _) ha hb
theorem x_eq (hu : X.A.units + 64 < cLine) (ha : PE X a (tE X.K w ea)) (hb : PE X b (tE X.K w eb)) : PE X (.Compare a [.Eq] [b] pos) (tE X.K w (eBin (fEq true) ea eb)) := x_cmp (op_eqD hu) ops_eq ha hb
theorem x_ne (hu : X.A.units + 64 < cLine) (ha : PE X a (tE X.K w ea)) (hb : PE X b (tE X.K w eb)) : PE X (.Compare a [.NotEq] [b] pos) (tE X.K w (eBin (fEq false) ea eb)) := x_cmp (op_neD hu) ops_ne ha hb
theorem x_is (ha : PE X a (tE X.K w ea)) (hb : PE X b (tE X.K w eb)) : PE X (.Compare a [.Is] [b] pos) (tE X.K w (eBin (fIs true) ea eb)) := x_cmp op_isN ops_is ha hb
theorem x_isnt (ha : PE X a (tE X.K w ea)) (hb : PE X b (tE X.K w eb)) : PE X (.Compare a [.IsNot] [b] pos) (tE X.K w (eBin (fIs false) ea eb)) := x_cmp op_notN ops_isnt ha hb
theorem x_in (hu : X.A.units + 65 < cLine) (ha : PE X a (tE X.K w ea)) (hb : PE X b (tE X.K w eb)) (hm : behindInMarks .In b = false := by rfl) : PE X (.Compare a [.In] [b] pos) (tE X.K w (eBin (fIn true) ea eb)) := x_cmp (OpR.or (op_inD hu) (op_inT hu)) ops_in ha hb hm
theorem x_nin (hu : X.A.units + 65 < cLine) (ha : PE X a (tE X.K w ea)) (hb : PE X b (tE X.K w eb)) (hm : behindInMarks .NotIn b = false := by rfl) : PE X (.Compare a [.NotIn] [b] pos) (tE X.K w (eBin (fIn false) ea eb)) := x_cmp (OpR.or (op_notInD hu) (op_notInT hu)) ops_nin ha hb hm
theorem x_item (ha : PE X a (tE X.K w ea)) (hb : PE X b (tE X.K w eb)) (hp : PlainIx b := by exact fun _ _ => rfl) : PE X (.Subscript a b pos) (tE X.K w (eBin fIx ea eb)) := x_ix ix_seq ops_ix ha hb hp
end

/-! ### an item of a named list, which is not let go -/
def slD : Option Sl → Option D
  | some (.pu d) => some d
  | some (.ow ds) => some (.lst ds)
  | _ => none
def eIxV (i : Nat) (b : EvE) : EvE := fun st => match slD st[i]? with
  | none => .no
  | some _ => (b st).bind fun y st1 => match slD st1[i]? with
    | none => .no
    | some d => match fIx d y.1 with
      | some z => .ok z st1
      | none => .no
section
variable {X : Cx} {w : Wi} {pos apos : Pos} {b : Expr} {eb : EvE}
/-- what stands in a slot: a value that is read now -/
theorem slD_at {K : PySem.W.Frag} {Xs : List Addr} {st : List Sl} {σ : L2.St} {H : Hp} {i : Nat} {d : D} (r : Rel K Xs st σ H) (h : slD st[i]? = some d) : ∃ v, σ[i]? = some (some v) ∧ (Dq K (vis Xs st σ H) v d ∨ ∃ p vs ds, v = .ref p ∧ d = .lst ds ∧ H p = some (.lst vs) ∧ DqAll K (vis Xs st σ H) vs ds) := by
  cases e : st[i]? with
  | none => rw [e] at h; cases h
  | some s =>
    rw [e] at h
    cases s with
    | un => cases h
    | pu d' =>
      cases h
      obtain ⟨v, e1, e2⟩ := r.pu i _ e
      exact ⟨v, e1, .inl e2⟩
    | ow ds =>
      cases h
      obtain ⟨p, vs, e1, e2, e3⟩ := r.ow i _ e
      exact ⟨_, e1, .inr ⟨p, vs, ds, rfl, rfl, e2, e3⟩⟩
theorem x_itemV (i : Nat) {x : Str} (hb : PE X b (tE X.K w eb)) (hN : X.N[i]? = some x := by rfl) (hv : Vis X.env.scope x := by first | exact Or.inl rfl | exact Or.inr (Or.inl rfl) | exact Or.inr (Or.inr rfl)) (hp : PlainIx b := by exact fun _ _ => rfl) (hd : (x == ("__debug__" : Str)) = false := by decide)
    (hcd : (x == ("__classdict__" : Str)) = false := by decide) : PE X (.Subscript (.Name x apos) b pos) (tE X.K w (eIxV i eb)) := by
  refine PE.of (pe_ix ix_seq (pe_var hN hv hd hcd) hb hp) fun σ H Q h => ?_
  obtain ⟨Xs, st, rel, h⟩ := h
  unfold eIxV at h
  split at h
  · exact h.elim
  · next d0 e0 =>
    obtain ⟨v, ev, _⟩ := slD_at rel e0
    refine ⟨v, ev, tE_seq rel h fun y H1 ry st1 p1 v1 h1 => ?_⟩
    split at h1
    · exact h1.elim
    · next d e1 =>
      split at h1
      · next z ez =>
        obtain ⟨v', ev', hv'⟩ := slD_at p1.rel e1
        have evv : v' = v := by rw [ev] at ev'; cases ev'; rfl
        subst evv
        rcases hv' with hv' | ⟨p, vs, ds, rfl, rfl, e2, e3⟩
        · exact ops_ix Xs st1 σ H1 v' y d ry.1 z Q p1.rel hv' v1.dp ez fun u H2 p2 v2 => h1 u H2 (p1.trans p2) (.of p1 v2)
        · have dy := v1.dp
          revert ez
          unfold fIx
          cases hy : ry.1 with
          | int j =>
            intro ez
            rw [hy] at dy
            cases dy
            have ez' : (atI ds j).map (fun x => (x, false)) = some z := ez
            cases e : atI ds j with
            | none => rw [e] at ez'; cases ez'
            | some d2 =>
              rw [e] at ez'
              cases ez' 
              obtain ⟨u, e4, e5⟩ := atI_get e3 e
              exact .inl ⟨_, _, _, u, rfl, rfl, SqL.of e2, e4, h1 u H1 p1 (.old e5)⟩
          | _ => intro ez; cases ez
      · exact h1.elim
end

/-! ### argument lists, displays -/
def aNil : EvA := fun st => .ok [] st
def aCons (a : EvE) (r : EvA) : EvA := fun st => (a st).bind fun x st1 => (r st1).bind fun xs st2 => .ok (x.1 :: xs) st2
def eTup (a : EvA) : EvE := fun st => (a st).bind fun ds st1 => if ds.length ≤ 100000 then .ok (.tup ds, false) st1 else .no
def eLst (a : EvA) : EvE := fun st => (a st).bind fun ds st1 => if ds.length ≤ 100000 then .ok (.lst ds, true) st1 else .no
section
variable {X : Cx} {w : Wi} {pos : Pos} {e : Expr} {es : List Expr} {ea : EvE} {er : EvA}
theorem xa_nil : PA X [] (tA X.K w aNil) := PA.of pa_nil fun σ H Q h => by
  obtain ⟨Xs, st, rel, h⟩ := h
  exact h [] H (Post.refl rel) .nil
theorem xa_cons (ha : PE X e (tE X.K w ea)) (hr : PA X es (tA X.K w er)) (hs : starEach (e :: es) X.env = (false, eval e X.env) :: starEach es X.env := by rfl) : PA X (e :: es) (tA X.K w (aCons ea er)) :=
  PA.of (pa_cons ha hr hs) fun σ H Q h => by
    obtain ⟨Xs, st, rel, h⟩ := h
    refine tE_seq rel h fun x H1 rx st1 p1 v1 h1 => ?_
    refine tA_seq p1.rel h1 fun xs H2 ds st2 p2 q2 h2 => ?_
    exact h2 (x :: xs) H2 (p1.trans p2) (.cons (dp_mono p2.ex v1.dp) q2)
theorem x_tup {k : Nat} (h : PA X es (tA X.K w er)) : PE X (.Tuple es k pos) (tE X.K w (eTup er)) := PE.of (pe_tup h) fun σ H Q h => by
  obtain ⟨Xs, st, rel, h⟩ := h
  refine tA_seq rel h fun xs H1 ds st1 p1 q1 h1 => ?_
  split at h1
  · next hl =>
    refine ⟨by rw [dpAll_len q1]; exact sz_of hl, fun p hp => ?_⟩
    exact h1 _ _ (p1.trans (rel_new p1.rel hp)) (.of p1 (val_newT p1.rel hp q1))
  · exact h1.elim
theorem x_lst (h : PA X es (tA X.K w er)) : PE X (.List es pos) (tE X.K w (eLst er)) := PE.of (pe_lst h) fun σ H Q h => by
  obtain ⟨Xs, st, rel, h⟩ := h
  refine tA_seq rel h fun xs H1 ds st1 p1 q1 h1 => ?_
  split at h1
  · next hl =>
    refine ⟨by rw [dpAll_len q1]; exact sz_of hl, fun p hp => ?_⟩
    exact h1 _ _ (p1.trans (rel_new p1.rel hp)) (.of p1 (val_newL p1.rel hp q1))
  · exact h1.elim
end

/-! ### and, or, not, if, tests -/
def D.bool? : D → Option Bool
  | .bl b => some b
  | _ => none
def eAnd (a b : EvE) : EvE := fun st => (a st).bind fun x st1 => match x.1.bool? with
  | some true => b st1
  | some false => .ok (.bl false, false) st1
  | none => .no
def eOr (a b : EvE) : EvE := fun st => (a st).bind fun x st1 => match x.1.bool? with
  | some true => .ok (.bl true, false) st1
  | some false => b st1
  | none => .no
def eNot (a : EvE) : EvE := fun st => (a st).bind fun x st1 => match x.1.bool? with
  | some c => .ok (.bl (!c), false) st1
  | none => .no
def eIf (t : EvT) (a b : EvE) : EvE := fun st => (t st).bind fun c st1 => if c = true then a st1 else b st1
def tOf (a : EvE) : EvT := fun st => (a st).bind fun x st1 => match x.1.bool? with
  | some c => .ok c st1
  | none => .no
def tAnd' (a b : EvT) : EvT := fun st => (a st).bind fun c st1 => if c = true then b st1 else .ok false st1
def tOr' (a b : EvT) : EvT := fun st => (a st).bind fun c st1 => if c = true then .ok true st1 else b st1
def tNot' (a : EvT) : EvT := fun st => (a st).bind fun c st1 => .ok (!c) st1
theorem bool?_of {d : D} {c : Bool} (h : d.bool? = some c) : d = .bl c := by
  cases d <;> first | (simp only [D.bool?, Option.some.injEq] at h; rw [h]) | cases h
section
variable {X : Cx} {w : Wi} {pos : Pos} {a b : Expr} {rest : List Expr} {ea eb : EvE} {ta tb : EvT}
theorem x_and (ha : PE X a (tE X.K w ea)) (hb : PE X (.BoolOp .And (b :: rest) pos) (tE X.K w eb)) : PE X (.BoolOp .And (a :: b :: rest) pos) (tE X.K w (eAnd ea eb)) := PE.of (pe_and ha hb) fun σ H Q h => by
  obtain ⟨Xs, st, rel, h⟩ := h
  refine tE_seq rel h fun x H1 rx st1 p1 v1 h1 => ?_
  split at h1
  · next ec =>
    have dp := v1.dp
    rw [bool?_of ec] at dp
    cases dp
    refine ⟨true, rfl, iteT ⟨Xs, st1, p1.rel, h1.mono (fun z s k v H2 p2 v2 => k v H2 (p1.trans p2) (.of p1 v2)) fun _ _ _ x => x⟩⟩
  · next ec =>
    have dp := v1.dp
    rw [bool?_of ec] at dp
    cases dp
    exact ⟨false, rfl, iteF (h1 _ H1 p1 (.old (.bl false)))⟩
  · exact h1.elim
theorem x_or (ha : PE X a (tE X.K w ea)) (hb : PE X (.BoolOp .Or (b :: rest) pos) (tE X.K w eb)) : PE X (.BoolOp .Or (a :: b :: rest) pos) (tE X.K w (eOr ea eb)) := PE.of (pe_or ha hb) fun σ H Q h => by
  obtain ⟨Xs, st, rel, h⟩ := h
  refine tE_seq rel h fun x H1 rx st1 p1 v1 h1 => ?_
  split at h1
  · next ec =>
    have dp := v1.dp
    rw [bool?_of ec] at dp
    cases dp
    exact ⟨true, rfl, iteT (h1 _ H1 p1 (.old (.bl true)))⟩
  · next ec =>
    have dp := v1.dp
    rw [bool?_of ec] at dp
    cases dp
    refine ⟨false, rfl, iteF ⟨Xs, st1, p1.rel, h1.mono (fun z s k v H2 p2 v2 => k v H2 (p1.trans p2) (.of p1 v2)) fun _ _ _ x => x⟩⟩
  · exact h1.elim
theorem x_one {op : BoolOp} (ha : PE X a (tE X.K w ea)) : PE X (.BoolOp op [a] pos) (tE X.K w ea) := pe_one ha
theorem x_not (ha : PE X a (tE X.K w ea)) : PE X (.UnaryOp .Not a pos) (tE X.K w (eNot ea)) := PE.of (pe_not ha) fun σ H Q h => by
  obtain ⟨Xs, st, rel, h⟩ := h
  refine tE_seq rel h fun x H1 rx st1 p1 v1 h1 => ?_
  split at h1
  · next c ec =>
    have dp := v1.dp
    rw [bool?_of ec] at dp
    cases dp
    exact ⟨c, rfl, h1 _ H1 p1 (.old (.bl _))⟩
  · exact h1.elim
theorem x_if {c : Expr} (hc : PT X c (tT X.K w ta)) (ha : PE X a (tE X.K w ea)) (hb : PE X b (tE X.K w eb)) : PE X (.IfExp c a b pos) (tE X.K w (eIf ta ea eb)) := PE.of (pe_ifExp hc ha hb) fun σ H Q h => by
  obtain ⟨Xs, st, rel, h⟩ := h
  refine tT_seq rel h fun c H1 st1 p1 h1 => ?_
  cases c with
  | true => exact iteT ⟨Xs, st1, p1.rel, (show Rdo (ea st1) _ _ from h1).mono (fun z s k v H2 p2 v2 => k v H2 (p1.trans p2) (.of p1 v2)) fun _ _ _ x => x⟩
  | false => exact iteF ⟨Xs, st1, p1.rel, (show Rdo (eb st1) _ _ from h1).mono (fun z s k v H2 p2 v2 => k v H2 (p1.trans p2) (.of p1 v2)) fun _ _ _ x => x⟩
/-- a value as a test -/
theorem xt_val (ha : PE X a (tE X.K w ea)) (he : ∀ whole, isTrue a X.env whole = (do let v ← whole; standAt a.pos; holding [v] (truthy v)) := by intro _; rfl) : PT X a (tT X.K w (tOf ea)) := PT.of (pt_val ha he) fun σ H Q h => by
  obtain ⟨Xs, st, rel, h⟩ := h
  refine tE_seq rel h fun x H1 rx st1 p1 v1 h1 => ?_
  split at h1
  · next c ec =>
    have dp := v1.dp
    rw [bool?_of ec] at dp
    cases dp
    exact ⟨c, rfl, h1 H1 p1⟩
  · exact h1.elim
theorem xt_cmp {r : R2} {f : D → D → Option R1} {op : CmpOp} (ho : OpR X (compareOp op) r) (hs : OpS X.K r f) (ha : PE X a (tE X.K w ea)) (hb : PE X b (tE X.K w eb)) (hm : behindInMarks op b = false) : PT X (.Compare a [op] [b] pos) (tT X.K w (tOf (eBin f ea eb))) := PT.of (pt_cmpR ho ha hb hm) fun σ H Q h => by
  obtain ⟨Xs, st, rel, h⟩ := h
  show tOp r (tE X.K w ea) (tE X.K w eb) σ H _
  refine tOp_of hs (tE_seq rel h fun x H1 rx st1 p1 v1 h1 => ?_)
  split at h1
  · next c ec =>
    have dp := v1.dp
    rw [bool?_of ec] at dp
    cases dp
    exact ⟨c, rfl, h1 H1 p1⟩
  · exact h1.elim
theorem xt_lt (ha : PE X a (tE X.K w ea)) (hb : PE X b (tE X.K w eb)) : PT X (.Compare a [.Lt] [b] pos) (tT X.K w (tOf (eBin fLt ea eb))) := xt_cmp (OpR.or op_lt op_lt_str) (ops_or (ops_i0 fun _ _ _ => .bl _) (ops_s fun _ _ _ => .bl _)) ha hb (nomark _)
theorem xt_le (ha : PE X a (tE X.K w ea)) (hb : PE X b (tE X.K w eb)) : PT X (.Compare a [.LtE] [b] pos) (tT X.K w (tOf (eBin fLe ea eb))) := xt_cmp op_le (ops_i0 fun _ _ _ => .bl _) ha hb (nomark _)
theorem xt_gt (ha : PE X a (tE X.K w ea)) (hb : PE X b (tE X.K w eb)) : PT X (.Compare a [.Gt] [b] pos) (tT X.K w (tOf (eBin fGt ea eb))) := xt_cmp op_gt (ops_i0 fun _ _ _ => .bl _) ha hb (nomark _)
theorem xt_ge (ha : PE X a (tE X.K w ea)) (hb : PE X b (tE X.K w eb)) : PT X (.Compare a [.GtE] [b] pos) (tT X.K w (tOf (eBin fGe ea eb))) := xt_cmp op_ge (ops_i0 fun _ _ _ => .bl _) ha hb (nomark _)
theorem xt_eq (hu : X.A.units + 64 < cLine) (ha : PE X a (tE X.K w ea)) (hb : PE X b (tE X.K w eb)) : PT X (.Compare a [.Eq] [b] pos) (tT X.K w (tOf (eBin (fEq true) ea eb))) := xt_cmp (op_eqD hu) ops_eq ha hb (nomark _)
theorem xt_ne (hu : X.A.units + 64 < cLine) (ha : PE X a (tE X.K w ea)) (hb : PE X b (tE X.K w eb)) : PT X (.Compare a [.NotEq] [b] pos) (tT X.K w (tOf (eBin (fEq false) ea eb))) := xt_cmp (op_neD hu) ops_ne ha hb (nomark _)
theorem xt_is (ha : PE X a (tE X.K w ea)) (hb : PE X b (tE X.K w eb)) : PT X (.Compare a [.Is] [b] pos) (tT X.K w (tOf (eBin (fIs true) ea eb))) := xt_cmp op_isN ops_is ha hb (nomark _)
theorem xt_isnt (ha : PE X a (tE X.K w ea)) (hb : PE X b (tE X.K w eb)) : PT X (.Compare a [.IsNot] [b] pos) (tT X.K w (tOf (eBin (fIs false) ea eb))) := xt_cmp op_notN ops_isnt ha hb (nomark _)
theorem xt_in (hu : X.A.units + 65 < cLine) (ha : PE X a (tE X.K w ea)) (hb : PE X b (tE X.K w eb)) (hm : behindInMarks .In b = false := by rfl) : PT X (.Compare a [.In] [b] pos) (tT X.K w (tOf (eBin (fIn true) ea eb))) := xt_cmp (OpR.or (op_inD hu) (op_inT hu)) ops_in ha hb hm
theorem xt_nin (hu : X.A.units + 65 < cLine) (ha : PE X a (tE X.K w ea)) (hb : PE X b (tE X.K w eb)) (hm : behindInMarks .NotIn b = false := by rfl) : PT X (.Compare a [.NotIn] [b] pos) (tT X.K w (tOf (eBin (fIn false) ea eb))) := xt_cmp (OpR.or (op_notInD hu) (op_notInT hu)) ops_nin ha hb hm
theorem xt_not (ha : PT X a (tT X.K w ta)) : PT X (.UnaryOp .Not a pos) (tT X.K w (tNot' ta)) := PT.of (pt_not ha) fun σ H Q h => by
  obtain ⟨Xs, st, rel, h⟩ := h
  exact tT_seq rel h fun c H1 st1 p1 h1 => h1 H1 p1
theorem xw_one {op : BoolOp} (ha : PT X a (tT X.K w ta)) : PW X (.BoolOp op [a] pos) (tT X.K w ta) := by
  cases op with
  | And => exact pw_and1 ha
  | Or => exact pw_or1 ha
theorem xw_and (ha : PT X a (tT X.K w ta)) (hb : PW X (.BoolOp .And (b :: rest) pos) (tT X.K w tb)) : PW X (.BoolOp .And (a :: b :: rest) pos) (tT X.K w (tAnd' ta tb)) := PW.of (pw_and ha hb) fun σ H Q h => by
  obtain ⟨Xs, st, rel, h⟩ := h
  refine tT_seq rel h fun c H1 st1 p1 h1 => ?_
  cases c with
  | true => exact iteT ⟨Xs, st1, p1.rel, (show Rdo (tb st1) _ _ from h1).mono (fun z s k H2 p2 => k H2 (p1.trans p2)) fun _ _ _ x => x⟩
  | false => exact iteF (h1 H1 p1)
theorem xw_or (ha : PT X a (tT X.K w ta)) (hb : PW X (.BoolOp .Or (b :: rest) pos) (tT X.K w tb)) : PW X (.BoolOp .Or (a :: b :: rest) pos) (tT X.K w (tOr' ta tb)) := PW.of (pw_or ha hb) fun σ H Q h => by
  obtain ⟨Xs, st, rel, h⟩ := h
  refine tT_seq rel h fun c H1 st1 p1 h1 => ?_
  cases c with
  | true => exact iteT (h1 H1 p1)
  | false => exact iteF ⟨Xs, st1, p1.rel, (show Rdo (tb st1) _ _ from h1).mono (fun z s k H2 p2 => k H2 (p1.trans p2)) fun _ _ _ x => x⟩
end
end TX

end

section
set_option Elab.async false
set_option linter.all false
set_option maxRecDepth 100000
set_option maxHeartbeats 2000000
namespace TX
open PySem L2 Evl PyProof.Rows

/-! ### built-in functions of one thing: a value, or a list that a name holds -/
def Bq (K : PySem.W.Frag) (Xs : List Addr) (st : List Sl) (σ : L2.St) (H : Hp) (v : V) (d : D) : Prop :=
  Dq K (vis Xs st σ H) v d ∨ ∃ p vs ds, v = .ref p ∧ d = .lst ds ∧ H p = some (.lst vs) ∧ DqAll K (vis Xs st σ H) vs ds
/-- a list is a list, however it is held -/
theorem Bq.lst {K : PySem.W.Frag} {Xs : List Addr} {st : List Sl} {σ : L2.St} {H : Hp} {v : V} {ds : List D} (h : Bq K Xs st σ H v (.lst ds)) : ∃ p vs, v = .ref p ∧ H p = some (.lst vs) ∧ DqAll K (vis Xs st σ H) vs ds := by
  rcases h with h | ⟨p, vs, ds', rfl, e, h1, h2⟩
  · cases h with
    | lst h1 h2 => exact ⟨_, _, rfl, msk_ex _ _ h1, h2⟩
  · cases e
    exact ⟨p, vs, rfl, h1, h2⟩
theorem Bq.dq {K : PySem.W.Frag} {Xs : List Addr} {st : List Sl} {σ : L2.St} {H : Hp} {v : V} {d : D} (h : Bq K Xs st σ H v d) (hd : ∀ ds, d ≠ .lst ds) : Dq K (vis Xs st σ H) v d := by
  rcases h with h | ⟨p, vs, ds', rfl, e, h1, h2⟩
  · exact h
  · exact absurd e (hd ds')
def Cb1 (K : PySem.W.Frag) (r : List V → Hp → VK → Prop) (f : D → Option R1) : Prop := ∀ (Xs : List Addr) (st : List Sl) (σ : L2.St) (H : Hp) (x : V) (dx : D) (z : R1) (Q : VK), Rel K Xs st σ H → Bq K Xs st σ H x dx → f dx = some z →
  (∀ v H', Post K Xs st σ H st H' → Val K Xs σ H st H' v z → Q v H') → r [x] H Q
def Cb2 (K : PySem.W.Frag) (r : List V → Hp → VK → Prop) (f : D → D → Option R1) : Prop := ∀ (Xs : List Addr) (st : List Sl) (σ : L2.St) (H : Hp) (x y : V) (dx dy : D) (z : R1) (Q : VK), Rel K Xs st σ H → Dq K (vis Xs st σ H) x dx → Dq K (vis Xs st σ H) y dy → f dx dy = some z →
  (∀ v H', Post K Xs st σ H st H' → Val K Xs σ H st H' v z → Q v H') → r [x, y] H Q
def eV1 (f : D → Option R1) (i : Nat) : EvE := fun st => match slD st[i]? with
  | none => .no
  | some d => match f d with
    | some z => .ok z st
    | none => .no
section
variable {K : PySem.W.Frag} {w : Wi} {r : List V → Hp → VK → Prop} {σ : L2.St} {H : Hp} {Q : VK}
theorem tCB1_of {f : D → Option R1} {ea : EvE} (ho : Cb1 K r f) (h : tE K w (eUn f ea) σ H Q) : tCB r (tCons (tE K w ea) tNil) σ H Q := by
  obtain ⟨Xs, st, rel, h⟩ := h
  refine tE_seq rel h fun x H1 rx st1 p1 v1 h1 => ?_
  split at h1
  · next z ez => exact ho Xs st1 σ H1 x rx.1 z Q p1.rel (.inl v1.dp) ez fun v H' p3 v3 => h1 v H' (p1.trans p3) (.of p1 v3)
  · exact h1.elim
theorem tCB1V_of {f : D → Option R1} {i : Nat} (ho : Cb1 K r f) (h : tE K w (eV1 f i) σ H Q) : tCB r (tCons (tVar i) tNil) σ H Q := by
  obtain ⟨Xs, st, rel, h⟩ := h
  unfold eV1 at h
  split at h
  · exact h.elim
  · next d e =>
    obtain ⟨v, e1, e2⟩ := slD_at rel e
    split at h
    · next z ez => exact ⟨v, e1, ho Xs st σ H v d z Q rel e2 ez h⟩
    · exact h.elim
theorem tCB2_of {f : D → D → Option R1} {ea eb : EvE} (ho : Cb2 K r f) (h : tE K w (eBin f ea eb) σ H Q) : tCB r (tCons (tE K w ea) (tCons (tE K w eb) tNil)) σ H Q := by
  obtain ⟨Xs, st, rel, h⟩ := h
  refine tE_seq rel h fun x H1 rx st1 p1 v1 h1 => ?_
  refine tE_seq p1.rel h1 fun y H2 ry st2 p2 v2 h2 => ?_
  split at h2
  · next z ez =>
    refine ho Xs st2 σ H2 x y rx.1 ry.1 z Q p2.rel (dp_mono p2.ex v1.dp) v2.dp ez fun v H' p3 v3 => ?_
    exact h2 v H' ((p1.trans p2).trans p3) (.of (p1.trans p2) v3)
  · exact h2.elim
end
section
variable {X : Cx} {w : Wi} {x n : Str} {p pos apos : Pos} {a b : Expr} {ea eb : EvE} {id T : String} {r : List V → Hp → VK → Prop} {f : D → Option R1} {g : D → D → Option R1}
theorem x_b1 (hc : CallR X (.builtin id) r) (hs : Cb1 X.K r f) (hm : X.mg x = none) (hv : bootBuiltins x = some (.builtin id)) (ha : PE X a (tE X.K w ea)) (hg : Gl X x := by rfl) (hn : x ≠ "__name__" := by decide) (hdb : (x == ("__debug__" : Str)) = false := by decide)
    (he : starEach [a] X.env = (false, eval a X.env) :: starEach [] X.env := by rfl) (hpl : (backTo pos (starEach [] X.env)).any (·.1) = false := by rfl) : PE X (.Call (.Name x p) [a] [] pos) (tE X.K w (eUn f ea)) :=
  PE.of (pe_callB hc hg hm hv (pa_cons ha pa_nil he) hn hdb he hpl) fun σ H Q h => tCB1_of hs h
theorem x_b1V (i : Nat) (hc : CallR X (.builtin id) r) (hs : Cb1 X.K r f) (hm : X.mg x = none) (hv : bootBuiltins x = some (.builtin id)) (hg : Gl X x := by rfl) (hN : X.N[i]? = some n := by rfl) (hvs : Vis X.env.scope n := by first | exact Or.inl rfl | exact Or.inr (Or.inl rfl) | exact Or.inr (Or.inr rfl))
    (hn : x ≠ "__name__" := by decide) (hdb : (x == ("__debug__" : Str)) = false := by decide) (hd : (n == ("__debug__" : Str)) = false := by decide) (hcd : (n == ("__classdict__" : Str)) = false := by decide) : PE X (.Call (.Name x p) [.Name n apos] [] pos) (tE X.K w (eV1 f i)) :=
  PE.of (pe_callB hc hg hm hv (pa_cons (pe_var hN hvs hd hcd) pa_nil) hn hdb) fun σ H Q h => tCB1V_of hs h
theorem x_b2 (hc : CallR X (.builtin id) r) (hs : Cb2 X.K r g) (hm : X.mg x = none) (hv : bootBuiltins x = some (.builtin id)) (ha : PE X a (tE X.K w ea)) (hb : PE X b (tE X.K w eb)) (hg : Gl X x := by rfl) (hn : x ≠ "__name__" := by decide) (hdb : (x == ("__debug__" : Str)) = false := by decide)
    (he : starEach [a, b] X.env = (false, eval a X.env) :: starEach [b] X.env := by rfl) (he2 : starEach [b] X.env = (false, eval b X.env) :: starEach [] X.env := by rfl) (hpl : (backTo pos (starEach [b] X.env)).any (·.1) = false := by rfl) : PE X (.Call (.Name x p) [a, b] [] pos) (tE X.K w (eBin g ea eb)) :=
  PE.of (pe_callB hc hg hm hv (pa_cons ha (pa_cons hb pa_nil he2) he) hn hdb he hpl) fun σ H Q h => tCB2_of hs h
theorem x_f2 (hc : CallR X (.builtin id) r) (hs : Cb2 X.K r g) (hm : X.mg x = some (.builtin id)) (ha : PE X a (tE X.K w ea)) (hb : PE X b (tE X.K w eb)) (hg : Gl X x := by rfl) (hdb : (x == ("__debug__" : Str)) = false := by decide)
    (he : starEach [a, b] X.env = (false, eval a X.env) :: starEach [b] X.env := by rfl) (he2 : starEach [b] X.env = (false, eval b X.env) :: starEach [] X.env := by rfl) (hpl : (backTo pos (starEach [b] X.env)).any (·.1) = false := by rfl) : PE X (.Call (.Name x p) [a, b] [] pos) (tE X.K w (eBin g ea eb)) :=
  PE.of (pe_callBfun hc hg hm (pa_cons ha (pa_cons hb pa_nil he2) he) hdb he hpl) fun σ H Q h => tCB2_of hs h
theorem x_t1 (hc : CallR X (.type T) r) (hs : Cb1 X.K r f) (hm : X.mg x = none) (hv : bootBuiltins x = some (.type T)) (ha : PE X a (tE X.K w ea)) (hg : Gl X x := by rfl) (hn : x ≠ "__name__" := by decide) (hdb : (x == ("__debug__" : Str)) = false := by decide)
    (he : starEach [a] X.env = (false, eval a X.env) :: starEach [] X.env := by rfl) (hpl : (backTo pos (starEach [] X.env)).any (·.1) = false := by rfl) : PE X (.Call (.Name x p) [a] [] pos) (tE X.K w (eUn f ea)) :=
  PE.of (pe_callTy hc hg hm hv (pa_cons ha pa_nil he) hn hdb he hpl) fun σ H Q h => tCB1_of hs h
theorem x_t1V (i : Nat) (hc : CallR X (.type T) r) (hs : Cb1 X.K r f) (hm : X.mg x = none) (hv : bootBuiltins x = some (.type T)) (hg : Gl X x := by rfl) (hN : X.N[i]? = some n := by rfl) (hvs : Vis X.env.scope n := by first | exact Or.inl rfl | exact Or.inr (Or.inl rfl) | exact Or.inr (Or.inr rfl))
    (hn : x ≠ "__name__" := by decide) (hdb : (x == ("__debug__" : Str)) = false := by decide) (hd : (n == ("__debug__" : Str)) = false := by decide) (hcd : (n == ("__classdict__" : Str)) = false := by decide) : PE X (.Call (.Name x p) [.Name n apos] [] pos) (tE X.K w (eV1 f i)) :=
  PE.of (pe_callTy hc hg hm hv (pa_cons (pe_var hN hvs hd hcd) pa_nil) hn hdb) fun σ H Q h => tCB1V_of hs h
end

/-! ### their trees -/
def fLen : D → Option R1 := fun x => match x with
  | .tup ds => some (.int ds.length, false)
  | .lst ds => some (.int ds.length, false)
  | .scr ns => some (.int ns.length, false)
  | _ => none
def fInt : D → Option R1 := fun x => match x with
  | .int i => some (.int i, false)
  | .bl k => some (.int (if k then 1 else 0), false)
  | _ => none
def fAbs : D → Option R1 := fun x => match x with
  | .int i => some (.int (if i < 0 then -i else i), false)
  | _ => none
def fTuple : D → Option R1 := fun x => match x with
  | .tup ds => some (.tup ds, false)
  | .lst ds => some (.tup ds, false)
  | .scr ns => some (.tup (ns.map .int), false)
  | _ => none
def fList : D → Option R1 := fun x => match x with
  | .tup ds => some (.lst ds, true)
  | .lst ds => some (.lst ds, true)
  | .scr ns => some (.lst (ns.map .int), true)
  | _ => none
def D.ints? : List D → Option (List Int)
  | [] => some []
  | .int i :: r => (D.ints? r).map (i :: ·)
  | _ :: _ => none
def fSum : D → Option R1 := fun x => match x with
  | .lst ds => (D.ints? ds).map fun ns => (.int ns.sum, false)
  | _ => none
def fMax2 : D → D → Option R1 := fI0 fun i j => .int (if j > i then j else i)
def fMin2 : D → D → Option R1 := fI0 fun i j => .int (if j < i then j else i)
def fGcd : D → D → Option R1 := fI0 fun i j => .int (Nat.gcd i.natAbs j.natAbs : Nat)
section
variable {K : PySem.W.Frag}
theorem ints_dq (M : Hp) : ∀ ns : List Int, DqAll K M (ns.map V.int) (ns.map .int)
  | [] => .nil
  | n :: ns => .cons (.int n) (ints_dq M ns)
theorem ints?_of {M : Hp} : ∀ {ds : List D} {vs : List V} {ns : List Int}, DqAll K M vs ds → D.ints? ds = some ns → vs = ns.map V.int
  | [], _, _, .nil, h => by cases h; rfl
  | .int i :: r, _, ns, .cons h1 h2, h => by
    cases h1
    have h' : (D.ints? r).map (i :: ·) = some ns := h
    cases e : D.ints? r with
    | none => rw [e] at h'; cases h'
    | some ms =>
      rw [e] at h'
      cases h'
      rw [ints?_of h2 e]
      rfl
  | .non :: _, _, _, _, h => by cases h
  | .bl _ :: _, _, _, _, h => by cases h
  | .str _ :: _, _, _, _, h => by cases h
  | .tup _ :: _, _, _, _, h => by cases h
  | .lst _ :: _, _, _, _, h => by cases h
  | .scr _ :: _, _, _, _, h => by cases h
  | .exc _ _ :: _, _, _, _, h => by cases h
theorem cb_len : Cb1 K (fun xs H Q => ∃ x n, xs = [x] ∧ LenV K x H n ∧ Q (.int n) H) fLen := by
  intro Xs st σ H x dx z Q rel hx hz hq
  cases dx with
  | tup ds =>
    cases hz
    have h := hx.dq (fun _ e => by cases e)
    cases h with
    | tup h1 q1 => exact ⟨_, _, rfl, .inr ⟨_, ex_t msk_ex h1, rfl⟩, by rw [dpAll_len q1]; exact hq _ H (Post.refl rel) (.old (.int _))⟩
  | lst ds =>
    cases hz
    obtain ⟨p, vs, rfl, h1, q1⟩ := hx.lst
    exact ⟨_, _, rfl, .inl ⟨_, SqL.of h1, rfl⟩, by rw [dpAll_len q1]; exact hq _ H (Post.refl rel) (.old (.int _))⟩
  | scr ns =>
    cases hz
    have h := hx.dq (fun _ e => by cases e)
    cases h with
    | scr h1 => exact ⟨_, _, rfl, .inl ⟨_, ex_l msk_ex h1, rfl⟩, by rw [List.length_map]; exact hq _ H (Post.refl rel) (.old (.int _))⟩
  | _ => cases hz
theorem cb_int : Cb1 K (fun xs H Q => (∃ i, xs = [.int i] ∧ Q (.int i) H) ∨ ∃ k, xs = [.bl k] ∧ Q (.int (if k then 1 else 0)) H) fInt := by
  intro Xs st σ H x dx z Q rel hx hz hq
  cases dx with
  | int i =>
    cases hz
    have h := hx.dq (fun _ e => by cases e)
    cases h
    exact .inl ⟨i, rfl, hq _ H (Post.refl rel) (.old (.int _))⟩
  | bl k =>
    cases hz
    have h := hx.dq (fun _ e => by cases e)
    cases h
    exact .inr ⟨k, rfl, hq _ H (Post.refl rel) (.old (.int _))⟩
  | _ => cases hz
theorem cb_abs : Cb1 K (fun xs H Q => ∃ i, xs = [.int i] ∧ Q (.int (if i < 0 then -i else i)) H) fAbs := by
  intro Xs st σ H x dx z Q rel hx hz hq
  cases dx with
  | int i =>
    cases hz
    have h := hx.dq (fun _ e => by cases e)
    cases h
    exact ⟨i, rfl, hq _ H (Post.refl rel) (.old (.int _))⟩
  | _ => cases hz
theorem cb_tuple : Cb1 K (fun xs H Q => ∃ p ys, xs = [.ref p] ∧ ((SqL K H p ys ∧ ∀ l, H l = none → Q (.ref l) (upd H l (.tup ys))) ∨ (SqT K H p ys ∧ Q (.ref p) H))) fTuple := by
  intro Xs st σ H x dx z Q rel hx hz hq
  cases dx with
  | tup ds =>
    cases hz
    have h := hx.dq (fun _ e => by cases e)
    cases h with
    | tup h1 q1 => exact ⟨_, _, rfl, .inr ⟨ex_t msk_ex h1, hq _ H (Post.refl rel) (.old (.tup h1 q1))⟩⟩
  | lst ds =>
    cases hz
    obtain ⟨p, vs, rfl, h1, q1⟩ := hx.lst
    exact ⟨_, _, rfl, .inl ⟨SqL.of h1, fun l hl => hq _ _ (rel_new rel hl) (val_newT rel hl q1)⟩⟩
  | scr ns =>
    cases hz
    have h := hx.dq (fun _ e => by cases e)
    cases h with
    | scr h1 => exact ⟨_, _, rfl, .inl ⟨ex_l msk_ex h1, fun l hl => hq _ _ (rel_new rel hl) (val_newT rel hl (ints_dq _ ns))⟩⟩
  | _ => cases hz
theorem cb_list : Cb1 K (fun xs H Q => ∃ p ys, xs = [.ref p] ∧ (SqL K H p ys ∨ SqT K H p ys) ∧ ∀ l, H l = none → Q (.ref l) (upd H l (.lst ys))) fList := by
  intro Xs st σ H x dx z Q rel hx hz hq
  cases dx with
  | tup ds =>
    cases hz
    have h := hx.dq (fun _ e => by cases e)
    cases h with
    | tup h1 q1 => exact ⟨_, _, rfl, .inr (ex_t msk_ex h1), fun l hl => hq _ _ (rel_new rel hl) (val_newL rel hl q1)⟩
  | lst ds =>
    cases hz
    obtain ⟨p, vs, rfl, h1, q1⟩ := hx.lst
    exact ⟨_, _, rfl, .inl (SqL.of h1), fun l hl => hq _ _ (rel_new rel hl) (val_newL rel hl q1)⟩
  | scr ns =>
    cases hz
    have h := hx.dq (fun _ e => by cases e)
    cases h with
    | scr h1 => exact ⟨_, _, rfl, .inl (ex_l msk_ex h1), fun l hl => hq _ _ (rel_new rel hl) (val_newL rel hl (ints_dq _ ns))⟩
  | _ => cases hz
theorem cb_sum : Cb1 K (rSum K) fSum := by
  intro Xs st σ H x dx z Q rel hx hz hq
  cases dx with
  | lst ds =>
    have hz' : (D.ints? ds).map (fun ns => ((D.int ns.sum, false) : R1)) = some z := hz
    cases e : D.ints? ds with
    | none => rw [e] at hz'; cases hz'
    | some ns =>
      rw [e] at hz'
      cases hz'
      obtain ⟨p, vs, rfl, h1, q1⟩ := hx.lst
      rw [ints?_of q1 e] at h1
      exact ⟨p, ns, rfl, SqL.of h1, hq _ H (Post.refl rel) (.old (.int _))⟩
  | _ => cases hz
theorem cb_i2 {g : Int → Int → D} {gv : Int → Int → V} (hg : ∀ H i j, Dq K H (gv i j) (g i j)) : Cb2 K (fun xs H Q => ∃ i j, xs = [.int i, .int j] ∧ Q (gv i j) H) (fI0 g) := by
  intro Xs st σ H x y dx dy z Q rel hx hy hz hq
  unfold fI0 at hz
  split at hz
  · next i j =>
    cases hz
    cases hx
    cases hy
    exact ⟨i, j, rfl, hq _ H (Post.refl rel) (.old (hg _ i j))⟩
  · cases hz
end

/-! ### isinstance -/
/-- the name of a tree's type -/
def D.ty : D → String
  | .non => "NoneType"
  | .bl _ => "bool"
  | .int _ => "int"
  | .str _ => "str"
  | .tup _ => "tuple"
  | .lst _ => "list"
  | .scr _ => "list"
  | .exc _ _ => ""
/-- none of those by their classes -/
def D.plain : D → Bool
  | .exc _ _ => false
  | .scr _ => false
  | _ => true
inductive Ty where
  | int | bool | str | tuple | list
def Ty.nm : Ty → String
  | .int => "int"
  | .bool => "bool"
  | .str => "str"
  | .tuple => "tuple"
  | .list => "list"
def D.is : D → Ty → Bool
  | .bl _, .bool => true
  | .bl _, .int => true
  | .int _, .int => true
  | .str _, .str => true
  | .tup _, .tuple => true
  | .lst _, .list => true
  | .scr _, .list => true
  | _, _ => false
theorem D.is_kit {d : D} (hd : d.plain = true) (T : Ty) : kitB d.ty T.nm = some (d.is T) := by
  cases d <;> first | (cases T <;> (simp only [D.ty, Ty.nm, D.is]; decide +kernel)) | cases hd
theorem ty_of {K : PySem.W.Frag} {H : Hp} {v : V} {d : D} (h : Dq K H v d) (hd : d.plain = true) : TyX K H v (.type d.ty) := by
  cases h with
  | non => exact .base .non
  | bl b => exact .base (.bl b)
  | int i => exact .base (.int i)
  | str s => exact .base (.str s)
  | lst h1 _ => exact .base (.lst h1)
  | tup h1 _ =>
    rcases h1 with (h1 | ⟨o, h1⟩) | ⟨o, its, n, h1, h2, _⟩
    · exact .base (.tup h1)
    · exact .fTuple h1
    · exact .kTuple h1 h2
  | scr h1 => cases hd
  | exc _ _ _ _ => cases hd
theorem ty_ofB {K : PySem.W.Frag} {Xs : List Addr} {st : List Sl} {σ : L2.St} {H : Hp} {v : V} {d : D} (h : Bq K Xs st σ H v d) (hd : d.plain = true) : TyX K H v (.type d.ty) := by
  rcases h with h | ⟨p, vs, ds, rfl, rfl, h1, _⟩
  · exact ty_of (dp_mono msk_ex h) hd
  · exact .base (.lst h1)
def isAny (d : D) : List Ty → Bool
  | [] => false
  | T :: r => d.is T || isAny d r
theorem kitAny_of {K : PySem.W.Frag} {d : D} (hd : d.plain = true) : ∀ Ts : List Ty, PySem.W.kitAny K (.type d.ty) (Ts.map fun T => .type T.nm) = some (isAny d Ts)
  | [] => kitAny_nil
  | T :: r => kitAny_cons (kit_ty (D.is_kit hd T)) (fun e => by rw [kitAny_of hd r]; show some (isAny d r) = some (d.is T || isAny d r); rw [e, Bool.false_or]) (fun e => by show (d.is T || isAny d r) = true; rw [e]; rfl)
def fIsi (Ts : List Ty) : D → Option R1 := fun d => if d.plain = true then some (.bl (isAny d Ts), false) else none
section
variable {X : Cx} {w : Wi} {n : Str} {p pos apos tpos : Pos} {a : Expr} {ea : EvE}
theorem bltn_ty {T : Ty} {tpos : Pos} {nm : Str} (hm : X.mg nm = none) (hv : bootBuiltins nm = some (.type T.nm)) (hg : Gl X nm := by rfl) (hn : nm ≠ "__name__" := by decide) (hd : (nm == ("__debug__" : Str)) = false := by decide) : PE X (.Name nm tpos) (tC (.ty T.nm)) := pe_bltn hg hm hv rfl hn hd
theorem x_isi1 (T : Ty) {b : Expr} (hb : PE X b (tC (.ty T.nm))) (hm : X.mg "isinstance" = none) (ha : PE X a (tE X.K w ea)) (hg : Gl X "isinstance" := by rfl)
    (he : starEach [a, b] X.env = (false, eval a X.env) :: starEach [b] X.env := by rfl) (he2 : starEach [b] X.env = (false, eval b X.env) :: starEach [] X.env := by rfl) (hpl : (backTo pos (starEach [b] X.env)).any (·.1) = false := by rfl) : PE X (.Call (.Name "isinstance" p) [a, b] [] pos) (tE X.K w (eUn (fIsi [T]) ea)) :=
  PE.of (pe_callB call_isi hg hm (by decide +kernel) (pa_cons ha (pa_cons hb pa_nil he2) he) (by decide) (by decide) he hpl) fun σ H Q h => by
    obtain ⟨Xs, st, rel, h⟩ := h
    refine tE_seq rel h fun x H1 rx st1 p1 v1 h1 => ?_
    unfold fIsi at h1
    by_cases hd : rx.1.plain = true
    · rw [if_pos hd] at h1
      refine ⟨x, _, _, _, _, rfl, .ty _, ty_of (dp_mono msk_ex v1.dp) hd, kit_ty (D.is_kit hd T), ?_⟩
      refine h1 _ H1 p1 (.old ?_)
      show Dq _ _ _ (D.bl (rx.1.is T || false))
      rw [Bool.or_false]
      exact .bl _
    · rw [if_neg hd] at h1
      exact h1.elim
theorem x_isi1V (i : Nat) (T : Ty) {b : Expr} (hb : PE X b (tC (.ty T.nm))) (hm : X.mg "isinstance" = none) (hg : Gl X "isinstance" := by rfl) (hN : X.N[i]? = some n := by rfl) (hvs : Vis X.env.scope n := by first | exact Or.inl rfl | exact Or.inr (Or.inl rfl) | exact Or.inr (Or.inr rfl))
    (hd : (n == ("__debug__" : Str)) = false := by decide) (hcd : (n == ("__classdict__" : Str)) = false := by decide)
    (he2 : starEach [b] X.env = (false, eval b X.env) :: starEach [] X.env := by rfl) (hpl : (backTo pos (starEach [b] X.env)).any (·.1) = false := by rfl) : PE X (.Call (.Name "isinstance" p) [.Name n apos, b] [] pos) (tE X.K w (eV1 (fIsi [T]) i)) :=
  PE.of (pe_callB call_isi hg hm (by decide +kernel) (pa_cons (pe_var hN hvs hd hcd) (pa_cons hb pa_nil he2)) (by decide) (by decide) (by rfl) hpl) fun σ H Q h => by
    obtain ⟨Xs, st, rel, h⟩ := h
    unfold eV1 at h
    split at h
    · exact h.elim
    · next d e =>
      obtain ⟨v, e1, e2⟩ := slD_at rel e
      unfold fIsi at h
      by_cases hd : d.plain = true
      · rw [if_pos hd] at h
        refine ⟨v, e1, v, _, _, _, _, rfl, .ty _, ty_ofB e2 hd, kit_ty (D.is_kit hd T), ?_⟩
        refine h _ H (Post.refl rel) (.old ?_)
        show Dq _ _ _ (D.bl (d.is T || false))
        rw [Bool.or_false]
        exact .bl _
      · rw [if_neg hd] at h
        exact h.elim
theorem paired_ty : ∀ Ts : List Ty, Paired ClsV (Ts.map fun T => V.ty T.nm) (Ts.map fun T => Value.type T.nm)
  | [] => .nil
  | T :: r => .cons (.ty _) (paired_ty r)
/-- isinstance(a, (T1, T2)) -/
theorem x_isi2V (i : Nat) (T1 T2 : Ty) {b c : Expr} {k : Nat} (hb : PE X b (tC (.ty T1.nm))) (hc : PE X c (tC (.ty T2.nm))) (hm : X.mg "isinstance" = none) (hg : Gl X "isinstance" := by rfl) (hN : X.N[i]? = some n := by rfl) (hvs : Vis X.env.scope n := by first | exact Or.inl rfl | exact Or.inr (Or.inl rfl) | exact Or.inr (Or.inr rfl))
    (hd : (n == ("__debug__" : Str)) = false := by decide) (hcd : (n == ("__classdict__" : Str)) = false := by decide)
    (he2 : starEach [b, c] X.env = (false, eval b X.env) :: starEach [c] X.env := by rfl) (he3 : starEach [c] X.env = (false, eval c X.env) :: starEach [] X.env := by rfl) : PE X (.Call (.Name "isinstance" p) [.Name n apos, .Tuple [b, c] k tpos] [] pos) (tE X.K w (eV1 (fIsi [T1, T2]) i)) :=
  PE.of (pe_callB call_isiT hg hm (by decide +kernel) (pa_cons (pe_var hN hvs hd hcd) (pa_cons (pe_tup (pa_cons hb (pa_cons hc pa_nil he3) he2)) pa_nil)) (by decide) (by decide)) fun σ H Q h => by
    obtain ⟨Xs, st, rel, h⟩ := h
    unfold eV1 at h
    split at h
    · exact h.elim
    · next d e =>
      obtain ⟨v, e1, e2⟩ := slD_at rel e
      refine ⟨v, e1, (by show 2 ≤ sizeLine; decide), fun q hq => ?_⟩
      unfold fIsi at h
      have hd : d.plain = true := by
        cases hp : d.plain with
        | true => rfl
        | false => rw [if_neg (by rw [hp]; decide)] at h; exact h.elim
      rw [if_pos hd] at h
      have P := rel_new (o := .tup [V.ty T1.nm, V.ty T2.nm]) rel hq
      have ty : TyX X.K (upd H q (.tup [V.ty T1.nm, V.ty T2.nm])) v (.type d.ty) := by
        rcases e2 with e2 | ⟨p, vs, ds, rfl, rfl, h1, _⟩
        · exact ty_of (dp_mono msk_ex (dp_mono P.ex e2)) hd
        · exact .base (.lst (by rw [upd_ne (ne_of_none h1 hq)]; exact h1))
      exact ⟨v, q, _, _, _, _, rfl, upd_same, paired_ty [T1, T2], ty, kitAny_of hd [T1, T2], h _ _ P (.old (.bl _))⟩
end
end TX

end

section
set_option Elab.async false
set_option linter.all false
set_option maxRecDepth 100000
set_option maxHeartbeats 2000000
namespace TX
open PySem L2 Evl PyProof.Rows

/-! ### statements -/
inductive SO where
  | nx (st : List Sl) | rt (r : R1) (st : List Sl) | bk (st : List Sl) | ct (st : List Sl) | ex (c : Nat) (d : D) (st : List Sl) | no
abbrev EvS := List Sl → SO
/-- B: the heap at the def's entry; P: the slots of the lists that the caller owns -/
structure RelS (K : PySem.W.Frag) (Xs : List Addr) (P : List Nat) (B : Hp) (st : List Sl) (σ : L2.St) (H : Hp) : Prop where
  rel : Rel K Xs st σ H
  own : ∀ (i : Nat) (ds : List D) (p : Addr), i ∉ P → st[i]? = some (.ow ds) → σ[i]? = some (some (.ref p)) → B p = none
  dom : ∀ a, H a = none → B a = none
structure PostS (K : PySem.W.Frag) (Xs : List Addr) (P : List Nat) (B : Hp) (st : List Sl) (σ : L2.St) (H : Hp) (st' : List Sl) (σ' : L2.St) (H' : Hp) : Prop where
  rel : RelS K Xs P B st' σ' H'
  ex : Ex (vis Xs st σ H) (vis Xs st' σ' H')
  xs : ∀ x ∈ Xs, Kp (H x) (H' x)
  dom : ∀ a, H' a = none → H a = none
  keep : ∀ i ∈ P, σ'[i]? = σ[i]?
theorem PostS.refl {K : PySem.W.Frag} {Xs : List Addr} {P : List Nat} {B : Hp} {st : List Sl} {σ : L2.St} {H : Hp} (r : RelS K Xs P B st σ H) : PostS K Xs P B st σ H st σ H := ⟨r, Ex.refl _, fun _ _ => Kp.refl _, fun _ h => h, fun _ _ => rfl⟩
theorem PostS.trans {K : PySem.W.Frag} {Xs : List Addr} {P : List Nat} {B : Hp} {st st1 st2 : List Sl} {σ σ1 σ2 : L2.St} {H H1 H2 : Hp} (a : PostS K Xs P B st σ H st1 σ1 H1) (b : PostS K Xs P B st1 σ1 H1 st2 σ2 H2) : PostS K Xs P B st σ H st2 σ2 H2 :=
  ⟨b.rel, a.ex.trans b.ex, fun x h => (a.xs x h).trans (b.xs x h), fun x h => a.dom x (b.dom x h), fun i h => (b.keep i h).trans (a.keep i h)⟩
/-- what is wanted of an exception -/
def exS (K : PySem.W.Frag) (w : Wi) (Xs : List Addr) (P : List Nat) (B : Hp) (st : List Sl) (σ : L2.St) (H : Hp) (c : Nat) (d : D) (st' : List Sl) : Prop :=
  ∀ (dx : Addr) (v : V) (σ' : L2.St) (H' : Hp), PostS K Xs P B st σ H st' σ' H' → vis Xs st' σ' H' dx = some (.xd [(fV, v)]) → Dq K (vis Xs st' σ' H') v d → w.W (.ref (w.cl c)) (some dx) σ' H'
/-- a value that a def hands back -/
structure ValR (K : PySem.W.Frag) (Xs : List Addr) (B : Hp) (st' : List Sl) (σ' : L2.St) (H' : Hp) (v : V) (r : R1) : Prop where
  dp : Dq K (vis Xs st' σ' H') v r.1
  fr : r.2 = true → ∃ p vs ds, v = .ref p ∧ r.1 = .lst ds ∧ B p = none ∧ H' p = some (.lst vs) ∧ DqAll K (vis (p :: Xs) st' σ' H') vs ds ∧ Rel K (p :: Xs) st' σ' H'
def RdS (K : PySem.W.Frag) (w : Wi) (Xs : List Addr) (P : List Nat) (B : Hp) (st : List Sl) (σ : L2.St) (H : Hp) (Dn : Ends) (o : SO) : Prop := match o with
  | .nx st' => ∀ σ' H', PostS K Xs P B st σ H st' σ' H' → Dn.nx σ' H'
  | .rt r st' => ∀ v σ' H', PostS K Xs P B st σ H st' σ' H' → ValR K Xs B st' σ' H' v r → Dn.rt v H'
  | .bk st' => ∀ σ' H', PostS K Xs P B st σ H st' σ' H' → Dn.bk σ' H'
  | .ct st' => ∀ σ' H', PostS K Xs P B st σ H st' σ' H' → Dn.ct σ' H'
  | .ex c d st' => exS K w Xs P B st σ H c d st'
  | .no => False
def tS (K : PySem.W.Frag) (w : Wi) (P : List Nat) (ev : EvS) : TS := fun Dn σ H => ∃ Xs B st, RelS K Xs P B st σ H ∧ RdS K w Xs P B st σ H Dn (ev st)
section
variable {K : PySem.W.Frag} {w : Wi} {Xs : List Addr} {P : List Nat} {B : Hp} {st st1 : List Sl} {σ σ1 : L2.St} {H H1 : Hp} {Dn : Ends}
/-- later on -/
theorem RdS.on {o : SO} (p : PostS K Xs P B st σ H st1 σ1 H1) (h : RdS K w Xs P B st σ H Dn o) : RdS K w Xs P B st1 σ1 H1 Dn o := by
  cases o with
  | nx s => exact fun σ' H' q => h σ' H' (p.trans q)
  | rt r s => exact fun v σ' H' q => h v σ' H' (p.trans q)
  | bk s => exact fun σ' H' q => h σ' H' (p.trans q)
  | ct s => exact fun σ' H' q => h σ' H' (p.trans q)
  | ex c d s => exact fun dx v σ' H' q => h dx v σ' H' (p.trans q)
  | no => exact h
/-- an expression in a statement: its state -/
theorem PostS.of {st st' : List Sl} {σ : L2.St} {H H' : Hp} (r : RelS K Xs P B st σ H) (p : Post K Xs st σ H st' H') : PostS K Xs P B st σ H st' σ H' :=
  ⟨⟨p.rel, fun i ds a hi h1 h2 => by
    obtain ⟨ds', h3⟩ := p.ol i ds h1
    exact r.own i ds' a hi h3 h2, fun a h => r.dom a (p.dom a h)⟩, p.ex, p.xs, p.dom, fun _ _ => rfl⟩
end
end TX

end

section
set_option Elab.async false
set_option linter.all false
set_option maxRecDepth 100000
set_option maxHeartbeats 2000000
namespace TX
open PySem L2 Evl PyProof.Rows

theorem ownd_cons_sub {s : Sl} {x : Option V} {st : List Sl} {σ : L2.St} : (ownd st σ).Sublist (ownd (s :: st) (x :: σ)) := by
  cases s with
  | un => exact List.Sublist.refl _
  | pu d => exact List.Sublist.refl _
  | ow ds =>
    cases x with
    | none => exact List.Sublist.refl _
    | some w =>
      cases w with
      | ref q => exact List.sublist_cons_self _ _
      | _ => exact List.Sublist.refl _
theorem ownd_set_sub {s' : Sl} (hs' : ∀ ds, s' ≠ .ow ds) : ∀ {st : List Sl} {σ : L2.St} {i : Nat} {v : Option V}, (ownd (st.set i s') (σ.set i v)).Sublist (ownd st σ)
  | [], σ, i, v => by rw [List.set_nil]; unfold ownd; exact List.Sublist.refl _
  | s :: st, [], i, v => by rw [List.set_nil, ownd_nil_r, ownd_nil_r]; exact List.Sublist.refl _
  | s :: st, x :: σ, 0, v => by
    show (ownd (s' :: st) (v :: σ)).Sublist _
    have e1 : ownd (s' :: st) (v :: σ) = ownd st σ := by
      cases s' with
      | ow ds => exact absurd rfl (hs' ds)
      | un => rfl
      | pu d => rfl
    rw [e1]
    exact ownd_cons_sub
  | s :: st, x :: σ, i + 1, v => by
    have ih := ownd_set_sub hs' (st := st) (σ := σ) (i := i) (v := v)
    show (ownd (s :: st.set i s') (x :: σ.set i v)).Sublist (ownd (s :: st) (x :: σ))
    cases s with
    | un => exact ih
    | pu d => exact ih
    | ow ds =>
      cases x with
      | none => exact ih
      | some w =>
        cases w with
        | ref q => exact ih.cons_cons q
        | _ => exact ih
theorem ownd_set_own {ds : List D} {p : Addr} : ∀ {st : List Sl} {σ : L2.St} {i : Nat}, i < st.length → i < σ.length → (ownd (st.set i (.ow ds)) (σ.set i (some (.ref p)))).Perm (p :: ownd (st.set i .un) (σ.set i (some (.ref p))))
  | [], σ, i, h, _ => by simp at h
  | s :: st, [], i, _, h => by simp at h
  | s :: st, x :: σ, 0, _, _ => List.Perm.refl _
  | s :: st, x :: σ, i + 1, h1, h2 => by
    have ih := ownd_set_own (ds := ds) (p := p) (st := st) (σ := σ) (i := i) (by simpa using h1) (by simpa using h2)
    show (ownd (s :: st.set i (.ow ds)) (x :: σ.set i (some (.ref p)))).Perm (p :: ownd (s :: st.set i .un) (x :: σ.set i (some (.ref p))))
    cases s with
    | un => exact ih
    | pu d => exact ih
    | ow es =>
      cases x with
      | none => exact ih
      | some w =>
        cases w with
        | ref q => exact (List.Perm.cons q ih).trans (List.Perm.swap p q _)
        | _ => exact ih
section
variable {K : PySem.W.Frag} {Xs : List Addr} {P : List Nat} {B : Hp} {st : List Sl} {σ : L2.St} {H : Hp}
theorem hid_sub {st' : List Sl} {σ' : L2.St} (h : (ownd st' σ').Sublist (ownd st σ)) : (hid Xs st' σ').Sublist (hid Xs st σ) := h.append_right Xs
/-- a slot takes a value, or is forgotten -/
theorem relS_set {i : Nat} {v : V} {s' : Sl} (r : RelS K Xs P B st σ H) (hi : i ∉ P) (hs : s' = .un ∨ ∃ d, s' = .pu d ∧ Dq K (vis Xs st σ H) v d) : PostS K Xs P B st σ H (st.set i s') (σ.set i (some v)) H := by
  have hno : ∀ ds, s' ≠ .ow ds := fun ds e => by
    rcases hs with h | ⟨d, h, _⟩
    · rw [h] at e; cases e
    · rw [h] at e; cases e
  have sub := hid_sub (Xs := Xs) (ownd_set_sub hno (st := st) (σ := σ) (i := i) (v := some v))
  have ex : Ex (vis Xs st σ H) (vis Xs (st.set i s') (σ.set i (some v)) H) := msk_sub fun a ha => sub.subset ha
  refine ⟨⟨⟨by rw [List.length_set, List.length_set]; exact r.rel.len, r.rel.nd.sublist sub, fun j d hj => ?_, fun j ds hj => ?_, r.rel.xs⟩, fun j ds p hp hj hp2 => ?_, r.dom⟩, ex, fun _ _ => Kp.refl _, fun _ h => h, fun j hj => ?_⟩
  · by_cases e : i = j
    · subst e
      have hlt : i < st.length := by
        have := (List.getElem?_eq_some_iff.mp hj).1
        rw [List.length_set] at this
        exact this
      rw [List.getElem?_set_self hlt] at hj
      cases hj
      rcases hs with h | ⟨d', h, q⟩
      · cases h
      · cases h
        exact ⟨v, List.getElem?_set_self (by rw [← r.rel.len]; exact hlt), dp_mono ex q⟩
    · rw [List.getElem?_set_ne e] at hj
      obtain ⟨u, q1, q2⟩ := r.rel.pu j d hj
      exact ⟨u, by rw [List.getElem?_set_ne e]; exact q1, dp_mono ex q2⟩
  · by_cases e : i = j
    · subst e
      have hlt : i < st.length := by
        have := (List.getElem?_eq_some_iff.mp hj).1
        rw [List.length_set] at this
        exact this
      rw [List.getElem?_set_self hlt] at hj
      cases hj
      exact absurd rfl (hno ds)
    · rw [List.getElem?_set_ne e] at hj
      obtain ⟨p, vs, q1, q2, q3⟩ := r.rel.ow j ds hj
      exact ⟨p, vs, by rw [List.getElem?_set_ne e]; exact q1, q2, dpAll_mono ex q3⟩
  · by_cases e : i = j
    · subst e
      have hlt : i < st.length := by
        have := (List.getElem?_eq_some_iff.mp hj).1
        rw [List.length_set] at this
        exact this
      rw [List.getElem?_set_self hlt] at hj
      cases hj
      exact absurd rfl (hno ds)
    · rw [List.getElem?_set_ne e] at hj hp2
      exact r.own j ds p hp hj hp2
  · exact List.getElem?_set_ne fun e => hi (by rw [e]; exact hj)
/-- a slot takes a new list -/
theorem relS_own {st0 : List Sl} {i : Nat} {p : Addr} {vs : List V} {ds : List D} {H0 : Hp} (r : RelS K Xs P B st σ H) (hi : i ∉ P) (hlt : i < st.length) (hB : B p = none) (h1 : H p = some (.lst vs)) (h2 : DqAll K (vis (p :: Xs) st σ H) vs ds) (h3 : Rel K (p :: Xs) st σ H) (h0 : Ex (vis Xs st0 σ H0) (vis (p :: Xs) st σ H)) (hx : ∀ x ∈ Xs, Kp (H0 x) (H x)) (hd : ∀ a, H a = none → H0 a = none) :
    PostS K Xs P B st0 σ H0 (st.set i (.ow ds)) (σ.set i (some (.ref p))) H := by
  have hlt' : i < σ.length := by rw [← r.rel.len]; exact hlt
  have pm : (hid Xs (st.set i (.ow ds)) (σ.set i (some (.ref p)))).Perm (p :: hid Xs (st.set i .un) (σ.set i (some (.ref p)))) := (ownd_set_own hlt hlt').append_right Xs
  have sub : (hid Xs (st.set i .un) (σ.set i (some (.ref p)))).Sublist (hid Xs st σ) := hid_sub (ownd_set_sub fun _ e => by cases e)
  have pm2 : (hid (p :: Xs) st σ).Perm (p :: hid Xs st σ) := List.perm_middle
  have nd2 : (p :: hid Xs st σ).Nodup := pm2.nodup_iff.mp h3.nd
  have ex : Ex (vis (p :: Xs) st σ H) (vis Xs (st.set i (.ow ds)) (σ.set i (some (.ref p))) H) := msk_sub fun a ha => by
    refine pm2.mem_iff.mpr ?_
    rcases List.mem_cons.mp (pm.mem_iff.mp ha) with e | e
    · exact List.mem_cons.mpr (.inl e)
    · exact List.mem_cons_of_mem _ (sub.subset e)
  refine ⟨⟨⟨by rw [List.length_set, List.length_set]; exact r.rel.len, pm.nodup_iff.mpr (nd2.sublist (sub.cons_cons p)), fun j d hj => ?_, fun j es hj => ?_, r.rel.xs⟩, fun j es q hp hj hq => ?_, r.dom⟩, h0.trans ex, hx, hd, fun j hj => ?_⟩
  · by_cases e : i = j
    · subst e
      rw [List.getElem?_set_self hlt] at hj
      cases hj
    · rw [List.getElem?_set_ne e] at hj
      obtain ⟨u, q1, q2⟩ := h3.pu j d hj
      exact ⟨u, by rw [List.getElem?_set_ne e]; exact q1, dp_mono ex q2⟩
  · by_cases e : i = j
    · subst e
      rw [List.getElem?_set_self hlt] at hj
      cases hj
      exact ⟨p, vs, List.getElem?_set_self hlt', h1, dpAll_mono ex h2⟩
    · rw [List.getElem?_set_ne e] at hj
      obtain ⟨q, us, q1, q2, q3⟩ := h3.ow j es hj
      exact ⟨q, us, by rw [List.getElem?_set_ne e]; exact q1, q2, dpAll_mono ex q3⟩
  · by_cases e : i = j
    · subst e
      rw [List.getElem?_set_self hlt'] at hq
      cases hq
      exact hB
    · rw [List.getElem?_set_ne e] at hj hq
      exact r.own j es q hp hj hq
  · exact List.getElem?_set_ne fun e => hi (by rw [e]; exact hj)
/-- a list that a slot owns is written -/
theorem relS_write {i : Nat} {p : Addr} {vs vs' : List V} {ds ds' : List D} (r : RelS K Xs P B st σ H) (h1 : st[i]? = some (.ow ds)) (h2 : σ[i]? = some (some (.ref p))) (h3 : H p = some (.lst vs)) (h4 : DqAll K (vis Xs st σ H) vs' ds') :
    PostS K Xs P B st σ H (st.set i (.ow ds')) σ (upd H p (.lst vs')) := by
  have hp : p ∈ hid Xs st σ := List.mem_append_left _ (ownd_mem h1 h2)
  have ho : ownd (st.set i (.ow ds')) σ = ownd st σ := ownd_set_ow h1
  have hlt : i < st.length := (List.getElem?_eq_some_iff.mp h1).1
  have ev : vis Xs (st.set i (.ow ds')) σ (upd H p (.lst vs')) = vis Xs st σ H := by
    show msk (ownd (st.set i (.ow ds')) σ ++ Xs) _ = _
    rw [ho]
    exact msk_upd hp
  have nx : ∀ x ∈ Xs, x ≠ p := fun x hx e => by
    have nd := r.rel.nd
    have := (List.nodup_append.mp nd).2.2 p (ownd_mem h1 h2) x hx
    exact this e.symm
  refine ⟨⟨⟨by rw [List.length_set]; exact r.rel.len, by show (ownd _ _ ++ Xs).Nodup; rw [ho]; exact r.rel.nd, fun j d hj => ?_, fun j es hj => ?_, r.rel.xs.eq fun x hx => upd_ne (nx x hx)⟩, fun j es q hq hj hq2 => ?_, fun a ha => ?_⟩,
    by rw [ev]; exact Ex.refl _, fun x hx => .inl (upd_ne (nx x hx)), fun a ha => ?_, fun _ _ => rfl⟩
  · have hj' : st[j]? = some (.pu d) := by
      by_cases e : i = j
      · subst e
        rw [List.getElem?_set_self hlt] at hj
        cases hj
      · rw [List.getElem?_set_ne e] at hj
        exact hj
    rw [ev]
    exact r.rel.pu j d hj'
  · rw [ev]
    by_cases e : i = j
    · subst e
      rw [List.getElem?_set_self hlt] at hj
      cases hj
      exact ⟨p, vs', h2, upd_same, h4⟩
    · rw [List.getElem?_set_ne e] at hj
      obtain ⟨q, us, q1, q2, q3⟩ := r.rel.ow j es hj
      refine ⟨q, us, q1, ?_, q3⟩
      rw [upd_ne]
      · exact q2
      · intro z
        subst z
        -- two slots with one address
        have nd : (ownd st σ).Nodup := (List.nodup_append.mp r.rel.nd).1
        have pm := ownd_free (d := .non) h1 h2
        have nd2 : (q :: ownd (st.set i (.pu .non)) σ).Nodup := pm.nodup_iff.mp nd
        exact (List.nodup_cons.mp nd2).1 (ownd_mem (i := j) (ds := es) (by rw [List.getElem?_set_ne e]; exact hj) q1)
  · by_cases e : i = j
    · subst e
      exact r.own i ds q hq h1 hq2
    · rw [List.getElem?_set_ne e] at hj
      exact r.own j es q hq hj hq2
  · by_cases e : a = p
    · rw [e, upd_same] at ha; cases ha
    · rw [upd_ne e] at ha; exact r.dom a ha
  · by_cases e : a = p
    · rw [e, upd_same] at ha; cases ha
    · rw [upd_ne e] at ha; exact ha
end

/-! ### blocks -/
def sSkip : EvS := fun st => .nx st
def sSeq (a b : EvS) : EvS := fun st => match a st with
  | .nx st1 => b st1
  | o => o
section
variable {X : Cx} {w : Wi} {P : List Nat} {s : Stmt} {rest : List Stmt} {a b : EvS}
theorem xs_nil : PSs X [] (tS X.K w P sSkip) := PSs.of pss_nil fun Dn σ H h => by
  obtain ⟨Xs, B, st, r, h⟩ := h
  exact h σ H (PostS.refl r)
theorem xs_cons (h1 : PS X s (tS X.K w P a)) (h2 : PSs X rest (tS X.K w P b)) : PSs X (s :: rest) (tS X.K w P (sSeq a b)) := PSs.of (pss_cons h1 h2) fun Dn σ H h => by
  obtain ⟨Xs, B, st, r, h⟩ := h
  refine ⟨Xs, B, st, r, ?_⟩
  unfold sSeq at h
  cases e : a st with
  | nx st1 =>
    rw [e] at h
    exact fun σ' H' p => ⟨Xs, B, st1, p.rel, h.on p⟩
  | rt v st1 => rw [e] at h; exact h
  | bk st1 => rw [e] at h; exact h
  | ct st1 => rw [e] at h; exact h
  | ex c d st1 => rw [e] at h; exact h
  | no => rw [e] at h; exact h
theorem xs_one (h1 : PS X s (tS X.K w P a)) : PSs X [s] (tS X.K w P a) := pss_one h1
end

/-! ### an expression, then a statement's rest -/
def O.toS {α : Type} (o : O α) (f : α → List Sl → SO) : SO := match o with
  | .ok a st => f a st
  | .ex c d st => .ex c d st
  | .no => .no
section
variable {K : PySem.W.Frag} {w : Wi} {Xs : List Addr} {P : List Nat} {B : Hp} {st : List Sl} {σ : L2.St} {H : Hp} {Dn : Ends}
theorem exS_of {c : Nat} {d : D} {s : List Sl} (r : RelS K Xs P B st σ H) (h : exS K w Xs P B st σ H c d s) : exW K w Xs st σ H c d s := fun dx v H' p e q => h dx v σ H' (.of r p) e q
theorem tE_S {ev : EvE} {f : R1 → List Sl → SO} {Q : VK} (r : RelS K Xs P B st σ H) (h : RdS K w Xs P B st σ H Dn ((ev st).toS f))
    (hq : ∀ v H1 z st1, Post K Xs st σ H st1 H1 → PostS K Xs P B st σ H st1 σ H1 → Val K Xs σ H st1 H1 v z → RdS K w Xs P B st σ H Dn (f z st1) → Q v H1) : tE K w ev σ H Q := by
  refine ⟨Xs, st, r.rel, ?_⟩
  cases e : ev st with
  | ok z st1 =>
    rw [e] at h
    exact fun v H1 p q => hq v H1 z st1 p (.of r p) q h
  | ex c d st1 =>
    rw [e] at h
    exact exS_of r h
  | no =>
    rw [e] at h
    exact h
theorem tA_S {ev : EvA} {f : List D → List Sl → SO} {Q : List V → Hp → Prop} (r : RelS K Xs P B st σ H) (h : RdS K w Xs P B st σ H Dn ((ev st).toS f))
    (hq : ∀ vs H1 ds st1, Post K Xs st σ H st1 H1 → PostS K Xs P B st σ H st1 σ H1 → DqAll K (vis Xs st1 σ H1) vs ds → RdS K w Xs P B st σ H Dn (f ds st1) → Q vs H1) : tA K w ev σ H Q := by
  refine ⟨Xs, st, r.rel, ?_⟩
  cases e : ev st with
  | ok z st1 =>
    rw [e] at h
    exact fun v H1 p q => hq v H1 z st1 p (.of r p) q h
  | ex c d st1 =>
    rw [e] at h
    exact exS_of r h
  | no =>
    rw [e] at h
    exact h
theorem tT_S {ev : EvT} {f : Bool → List Sl → SO} {Q : Bool → Hp → Prop} (r : RelS K Xs P B st σ H) (h : RdS K w Xs P B st σ H Dn ((ev st).toS f))
    (hq : ∀ b H1 st1, PostS K Xs P B st σ H st1 σ H1 → RdS K w Xs P B st σ H Dn (f b st1) → Q b H1) : tT K w ev σ H Q := by
  refine ⟨Xs, st, r.rel, ?_⟩
  cases e : ev st with
  | ok z st1 =>
    rw [e] at h
    exact fun H1 p => hq z H1 st1 (.of r p) h
  | ex c d st1 =>
    rw [e] at h
    exact exS_of r h
  | no =>
    rw [e] at h
    exact h
end

/-! ### assignments -/
/-- a name takes a value; a new list is owned -/
def putS (P : List Nat) (i : Nat) (z : R1) (st : List Sl) : SO := if i ∈ P ∨ st.length ≤ i then .no else match z with
  | (.lst ds, true) => .nx (st.set i (.ow ds))
  | (d, _) => .nx (st.set i (.pu d))
def sSet (P : List Nat) (i : Nat) (e : EvE) : EvS := fun st => (e st).toS (putS P i)
section
variable {X : Cx} {w : Wi} {P : List Nat} {pos : Pos}
theorem put_of {K : PySem.W.Frag} {Xs : List Addr} {B : Hp} {st st1 : List Sl} {σ : L2.St} {H H1 : Hp} {Dn : Ends} {i : Nat} {v : V} {z : R1} (r : RelS K Xs P B st σ H) (p1 : Post K Xs st σ H st1 H1) (v1 : Val K Xs σ H st1 H1 v z) (h : RdS K w Xs P B st σ H Dn (putS P i z st1)) : Dn.nx (σ.set i (some v)) H1 := by
  have p := PostS.of r p1
  unfold putS at h
  split at h
  · exact h.elim
  · next hc =>
    have hi : i ∉ P := fun q => hc (.inl q)
    have hl : i < st1.length := Nat.lt_of_not_le fun q => hc (.inr q)
    split at h
    · next ds =>
      obtain ⟨q, vs, es, rfl, e2, e3, e4, e5, e6⟩ := v1.fr rfl
      cases e2
      refine h _ _ (relS_own p.rel hi hl (r.dom q e3) e4 e5 e6 (fun a o ha => ?_) p1.xs p1.dom)
      have hm := msk_some (p1.ex a o ha)
      have aq : a ≠ q := fun z => by rw [z] at ha; have := (msk_some ha).2; rw [e3] at this; cases this
      show msk (ownd st1 σ ++ q :: Xs) H1 a = some o
      rw [msk_out]
      · exact hm.2
      · intro hx
        rcases List.mem_append.mp hx with hx | hx
        · exact hm.1 (List.mem_append_left _ hx)
        · rcases List.mem_cons.mp hx with hx | hx
          · exact aq hx
          · exact hm.1 (List.mem_append_right _ hx)
    · exact h _ _ (p.trans (relS_set p.rel hi (.inr ⟨_, rfl, v1.dp⟩)))
theorem xs_set (i : Nat) {x : Str} {e : Expr} {ev : EvE} {pos' : Pos} (he : PE X e (tE X.K w ev)) (hN : X.N.Nodup) (hi : X.N[i]? = some x := by rfl) (hx : Loc X.env.scope x := by first | exact Or.inl rfl | exact Or.inr rfl) (hs : swapsWith e (some (.Name x pos')) pos.line X.env = pure false := by rfl)
    (hf : X.fn x = true ∨ X.env.scope.names.lookup x = some .local := by first | exact .inl rfl | exact .inr rfl | assumption) : PS X (.Assign [.Name x pos'] e pos) (tS X.K w P (sSet P i ev)) :=
  PS.of (ps_set hN hi hx he hs hf) fun Dn σ H h => by
    obtain ⟨Xs, B, st, r, h⟩ := h
    exact tE_S r h fun v H1 z st1 p1 _ v1 h1 => put_of r p1 v1 h1
/-- a, b = x, y: two names of the def's own -/
def sPar (P : List Nat) (i j : Nat) (a : EvA) : EvS := fun st => (a st).toS fun ds st1 => match ds with
  | [d, e] => if i ∈ P ∨ j ∈ P then .no else .nx ((st1.set i (.pu d)).set j (.pu e))
  | _ => .no
theorem xs_par (i j : Nat) {x y : Str} {a b : Expr} {ev : EvA} {px py pt : Pos} {kt k2 : Nat} {pt2 : Pos} (ha : PA X [a, b] (tA X.K w ev)) (hc : X.calm = true) (hN : X.N.Nodup) (hi : X.N[i]? = some x := by rfl) (hj : X.N[j]? = some y := by rfl) (hij : i ≠ j := by decide)
    (hx : X.env.scope.names.lookup x = some .local := by rfl) (hy : X.env.scope.names.lookup y = some .local := by rfl)
    (hw : swappedStores [.Tuple [.Name x px, .Name y py] kt pt] (.Tuple [a, b] k2 pt2) X.env = pure (some [x, y]) := by rfl)
    (hs : swapsWithSole [.Tuple [.Name x px, .Name y py] kt pt] (.Tuple [a, b] k2 pt2) pos.line X.env = pure false := by rfl) :
    PS X (.Assign [.Tuple [.Name x px, .Name y py] kt pt] (.Tuple [a, b] k2 pt2) pos) (tS X.K w P (sPar P i j ev)) :=
  PS.of (ps_par hc hN hi hj hij hx hy ha hw hs) fun Dn σ H h => by
    obtain ⟨Xs, B, st, r, h⟩ := h
    refine tA_S r h fun vs H1 ds st1 p1 p q h1 => ?_
    split at h1
    · next d e =>
      split at h1
      · exact h1.elim
      · next hc =>
        cases q with
        | cons q1 q2 =>
          cases q2 with
          | cons q2 q3 =>
            cases q3
            have s1 := relS_set p.rel (i := i) (fun z => hc (.inl z)) (.inr ⟨d, rfl, q1⟩)
            have s2 := relS_set s1.rel (i := j) (fun z => hc (.inr z)) (.inr ⟨e, rfl, dp_mono s1.ex q2⟩)
            exact ⟨_, _, rfl, h1 _ _ ((p.trans s1).trans s2)⟩
    · exact h1.elim
/-- a, b, .. = a tuple -/
def putAll (P : List Nat) : List Nat → List D → List Sl → SO
  | [], [], st => .nx st
  | i :: is, d :: ds, st => if i ∈ P then .no else putAll P is ds (st.set i (.pu d))
  | _, _, _ => .no
def sUnp (P : List Nat) (is : List Nat) (e : EvE) : EvS := fun st => (e st).toS fun z st1 => match z.1 with
  | .tup ds => putAll P is ds st1
  | _ => .no
def gNames : List Nat → TGs
  | [] => gNil
  | i :: is => gCons (gName i) (gNames is)
theorem putAll_len {K : PySem.W.Frag} {Xs : List Addr} {B : Hp} {Dn : Ends} {st0 : List Sl} {σ0 : L2.St} {H0 H : Hp} : ∀ {is : List Nat} {ds : List D} {st : List Sl}, RdS K w Xs P B st0 σ0 H0 Dn (putAll P is ds st) → ds.length = is.length
  | [], [], _, _ => rfl
  | [], _ :: _, _, h => h.elim
  | _ :: _, [], _, h => h.elim
  | i :: is, d :: ds, st, h => by
    unfold putAll at h
    split at h
    · exact h.elim
    · rw [List.length_cons, List.length_cons, putAll_len (H := H) h]
theorem putAll_of {K : PySem.W.Frag} {Xs : List Addr} {B : Hp} {Dn : Ends} {st0 : List Sl} {σ0 : L2.St} {H0 H : Hp} : ∀ {is : List Nat} {ds : List D} {vs : List V} {st : List Sl} {σ : L2.St}, PostS K Xs P B st0 σ0 H0 st σ H → DqAll K (vis Xs st σ H) vs ds →
    RdS K w Xs P B st0 σ0 H0 Dn (putAll P is ds st) → gNames is vs σ H Dn.nx
  | [], [], _, _, _, p, .nil, h => ⟨rfl, h _ _ p⟩
  | [], _ :: _, _, _, _, _, _, h => h.elim
  | _ :: _, [], _, _, _, _, _, h => h.elim
  | i :: is, d :: ds, _, st, σ, p, .cons q1 q2, h => by
    unfold putAll at h
    split at h
    · exact h.elim
    · next hi =>
      have s1 := relS_set p.rel (i := i) hi (.inr ⟨d, rfl, q1⟩)
      exact ⟨_, _, rfl, putAll_of (p.trans s1) (dpAll_mono s1.ex q2) h⟩
theorem xs_unp (is : List Nat) {es : List Expr} {e : Expr} {ev : EvE} {k : Nat} {tp : Pos} (he : PE X e (tE X.K w ev)) (hg : PGs X es (gNames is)) (hc : X.calm = true) (hn : (assignEach es X.env).length = is.length := by rfl) (hst : (assignEach es X.env).findIdx? (·.1) = none := by rfl)
    (hs : swapsWithSole [.Tuple es k tp] e pos.line X.env = pure false := by rfl) (hw : swappedStores [.Tuple es k tp] e X.env = pure none := by rfl) (h1 : (assignEach [.Tuple es k tp] X.env).map (·.2) = [assign (.Tuple es k tp) X.env] := by rfl) :
    PS X (.Assign [.Tuple es k tp] e pos) (tS X.K w P (sUnp P is ev)) :=
  PS.of (ps_asg he (pg_tup hc hg hn hst) hs hw h1) fun Dn σ H h => by
    obtain ⟨Xs, B, st, r, h⟩ := h
    refine tE_S r h fun v H1 z st1 p1 p v1 h1 => ?_
    have dp := v1.dp
    revert dp h1
    cases z.1 with
    | tup ds =>
      intro h1 dp
      cases dp with
      | tup e1 e2 => exact ⟨_, _, rfl, ex_t msk_ex e1, by rw [dpAll_len e2]; exact putAll_len (H := H1) h1, putAll_of p e2 h1⟩
    | _ => intro h1; exact h1.elim
theorem xg_nil : PGs X [] (gNames []) := pgs_nil
theorem xg_cons (i : Nat) {x : Str} {p : Pos} {es : List Expr} {is : List Nat} (h : PGs X es (gNames is)) (hN : X.N.Nodup) (hi : X.N[i]? = some x := by rfl) (hx : Loc X.env.scope x := by first | exact Or.inl rfl | exact Or.inr rfl)
    (hf : X.fn x = true ∨ X.env.scope.names.lookup x = some .local := by first | exact .inl rfl | exact .inr rfl | assumption)
    (hs : (assignEach (.Name x p :: es) X.env).map (·.2) = assign (.Name x p) X.env :: (assignEach es X.env).map (·.2) := by rfl) : PGs X (.Name x p :: es) (gNames (i :: is)) := pgs_cons (pg_name hN hi hx hf) h hs

/-! ### an item, an append -/
def sItem (i : Nat) (ix e : EvE) : EvS := fun st => (e st).toS fun z st1 => match slD st1[i]? with
  | none => .no
  | some _ => (ix st1).toS fun k st2 => match st2[i]?, k.1 with
    | some (.ow ds), .int n => match ixN ds.length n with
      | some j => .nx (st2.set i (.ow (ds.set j z.1)))
      | none => .no
    | _, _ => .no
theorem xs_item (i : Nat) {x : Str} {e ix : Expr} {ev ei : EvE} {tp np : Pos} (he : PE X e (tE X.K w ev)) (hx : PE X ix (tE X.K w ei)) (hN : X.N[i]? = some x := by rfl) (hv : Vis X.env.scope x := by first | exact Or.inl rfl | exact Or.inr (Or.inl rfl) | exact Or.inr (Or.inr rfl))
    (hd : (x == ("__debug__" : Str)) = false := by decide) (hcd : (x == ("__classdict__" : Str)) = false := by decide)
    (ha : ∀ v, assign (.Subscript (.Name x np) ix tp) X.env v = (do
      let ov ← holding [v] (eval (.Name x np) X.env)
      let iv ← holding [v, ov] (eval ix X.env)
      standAt tp
      holding [v, ov, iv] (setItem ov iv v)
      release [v, ov, iv] []) := by intro _; rfl)
    (hs : swapsWithSole [.Subscript (.Name x np) ix tp] e pos.line X.env = pure false := by rfl) (hw : swappedStores [.Subscript (.Name x np) ix tp] e X.env = pure none := by rfl) (h1 : (assignEach [.Subscript (.Name x np) ix tp] X.env).map (·.2) = [assign (.Subscript (.Name x np) ix tp) X.env] := by rfl) :
    PS X (.Assign [.Subscript (.Name x np) ix tp] e pos) (tS X.K w P (sItem i ei ev)) :=
  PS.of (ps_asg he (pg_sub (pe_var hN hv hd hcd) hx set_list ha) hs hw h1) fun Dn σ H h => by
    obtain ⟨Xs, B, st, r, h⟩ := h
    refine tE_S r h fun v H1 z st1 p1 p v1 h1 => ?_
    split at h1
    · exact h1.elim
    · next d0 e0 =>
      obtain ⟨u, e1, _⟩ := slD_at p.rel.rel e0
      refine ⟨u, e1, tE_S p.rel (h1.on p) fun k H2 kz st2 p2 q2 v2 h2 => ?_⟩
      split at h2
      · next ds n es ek =>
        obtain ⟨a, us, e2, e3, e4⟩ := q2.rel.rel.ow i ds es
        have eu : u = .ref a := by rw [e1] at e2; cases e2; rfl
        subst eu
        have kd := v2.dp
        rw [ek] at kd
        cases kd
        cases ej : ixN ds.length n with
        | none => rw [ej] at h2; exact h2.elim
        | some j =>
          rw [ej] at h2
          refine ⟨a, us, n, j, rfl, rfl, e3, by rw [dpAll_len e4]; exact ej, ?_⟩
          exact h2 σ _ (q2.trans (relS_write q2.rel es e2 e3 (dpAll_set (dp_mono q2.ex v1.dp) j e4)))
      · exact h2.elim
def sApp (i : Nat) (e : EvE) : EvS := fun st => match st[i]? with
  | some (.ow _) => (e st).toS fun z st1 => match st1[i]? with
    | some (.ow ds) => if ds.length < 100000 then .nx (st1.set i (.ow (ds ++ [z.1]))) else .no
    | _ => .no
  | _ => .no
theorem xs_app (i : Nat) {x : Str} {e : Expr} {ev : EvE} {np ap cp : Pos} (he : PE X e (tE X.K w ev)) (hN : X.N[i]? = some x := by rfl) (hv : Vis X.env.scope x := by first | exact Or.inl rfl | exact Or.inr (Or.inl rfl) | exact Or.inr (Or.inr rfl))
    (hd : (x == ("__debug__" : Str)) = false := by decide) (hcd : (x == ("__classdict__" : Str)) = false := by decide)
    (hsw : swapsWith (.Call (.Attribute (.Name x np) "append" ap) [e] [] cp) none pos.line X.env = pure false := by rfl)
    (hst : starEach [e] X.env = (false, eval e X.env) :: starEach [] X.env := by rfl)
    (hfew : ((backTo cp (starEach [e] X.env)).all (fun x => !x.1) && (backToKw cp (keywordEach [] X.env)).all (fun x => x.1.isSome) && decide ([e].length + ([] : List Keyword).length + (if ([] : List Keyword).isEmpty then 0 else 1) < 30)) = true := by rfl)
    (hline : (ap.endLine == cp.line) = true := by rfl) :
    PS X (.Expr (.Call (.Attribute (.Name x np) "append" ap) [e] [] cp) pos) (tS X.K w P (sApp i ev)) :=
  PS.of (ps_expr (pe_bm PySem.F.plainAttrs_list PySem.F.slot_list_append PySem.F.type_list_append mt_append (pe_var hN hv hd hcd) (pa_cons he pa_nil hst) (by rfl) hfew hline hst) hsw) fun Dn σ H h => by
    obtain ⟨Xs, B, st, r, h⟩ := h
    unfold sApp at h
    split at h
    · next ds0 e0 =>
      obtain ⟨a, us0, e1, e2, _⟩ := r.rel.ow i ds0 e0
      refine ⟨.ref a, e1, .inl ⟨rfl, us0, SqL.of e2⟩, tE_S r h fun v H1 z st1 p1 p v1 h1 => ?_⟩
      split at h1
      · next ds es =>
        split at h1
        · next hl =>
          obtain ⟨a', us, e3, e4, e5⟩ := p.rel.rel.ow i ds es
          have ea : a' = a := by rw [e1] at e3; cases e3; rfl
          subst ea
          refine ⟨a', us, v, rfl, rfl, e4, by rw [dpAll_len e5]; exact sz_lt hl, ?_⟩
          exact h1 σ _ (p.trans (relS_write p.rel es e3 e4 (dpAll_append e5 (.cons v1.dp .nil))))
        · exact h1.elim
      · exact h1.elim
    · exact h.elim

/-! ### return, if, a value dropped, pass, break, continue -/
def sRet (e : EvE) : EvS := fun st => (e st).toS fun z st1 => .rt z st1
def sRetV (P : List Nat) (i : Nat) : EvS := fun st => match st[i]? with
  | some (.pu d) => .rt (d, false) st
  | some (.ow ds) => if i ∈ P then .no else .rt (.lst ds, true) (st.set i .un)
  | _ => .no
def sRetN : EvS := fun st => .rt (.non, false) st
def sIf (t : EvT) (a b : EvS) : EvS := fun st => (t st).toS fun c st1 => if c = true then a st1 else b st1
def sDrop (e : EvE) : EvS := fun st => (e st).toS fun _ st1 => .nx st1
theorem valR_of {K : PySem.W.Frag} {Xs : List Addr} {B : Hp} {st st1 : List Sl} {σ : L2.St} {H H1 : Hp} {v : V} {z : R1} (r : RelS K Xs P B st σ H) (h : Val K Xs σ H st1 H1 v z) : ValR K Xs B st1 σ H1 v z :=
  ⟨h.dp, fun e => by
    obtain ⟨p, vs, ds, h1, h2, h3, h4⟩ := h.fr e
    exact ⟨p, vs, ds, h1, h2, r.dom p h3, h4⟩⟩
theorem xs_ret {e : Expr} {ev : EvE} (he : PE X e (tE X.K w ev)) : PS X (.Return (some e) pos) (tS X.K w P (sRet ev)) := PS.of (ps_ret he) fun Dn σ H h => by
  obtain ⟨Xs, B, st, r, h⟩ := h
  exact tE_S r h fun v H1 z st1 p1 p v1 h1 => h1 v σ H1 p (valR_of r v1)
theorem xs_retN : PS X (.Return none pos) (tS X.K w P sRetN) := PS.of ps_retN fun Dn σ H h => by
  obtain ⟨Xs, B, st, r, h⟩ := h
  exact h .non σ H (PostS.refl r) ⟨.non, fun e => by cases e⟩
theorem xs_retV (i : Nat) {x : Str} {np : Pos} (hN : X.N[i]? = some x := by rfl) (hv : Vis X.env.scope x := by first | exact Or.inl rfl | exact Or.inr (Or.inl rfl) | exact Or.inr (Or.inr rfl))
    (hd : (x == ("__debug__" : Str)) = false := by decide) (hcd : (x == ("__classdict__" : Str)) = false := by decide) : PS X (.Return (some (.Name x np)) pos) (tS X.K w P (sRetV P i)) := PS.of (ps_ret (pe_var hN hv hd hcd)) fun Dn σ H h => by
  obtain ⟨Xs, B, st, r, h⟩ := h
  unfold sRetV at h
  split at h
  · next d e =>
    obtain ⟨v, e1, e2⟩ := r.rel.pu i d e
    exact ⟨v, e1, h v σ H (PostS.refl r) ⟨e2, fun e => by cases e⟩⟩
  · next ds e =>
    split at h
    · exact h.elim
    · next hi =>
      obtain ⟨p, vs, e1, e2, e3⟩ := r.rel.ow i ds e
      -- the slot's list is the value; the slot is forgotten
      have hσ : σ.set i (some (.ref p)) = σ := by
        apply List.ext_getElem?
        intro j
        by_cases ej : i = j
        · subst ej
          rw [List.getElem?_set_self (List.getElem?_eq_some_iff.mp e1).1, e1]
        · rw [List.getElem?_set_ne ej]
      have q := relS_set (v := .ref p) r hi (.inl rfl)
      rw [hσ] at q
      have hlt : i < st.length := (List.getElem?_eq_some_iff.mp e).1
      have pm : (hid Xs st σ).Perm (p :: hid Xs (st.set i .un) σ) := by
        have h0 := (ownd_set_own (ds := ds) (p := p) hlt (by rw [← r.rel.len]; exact hlt)).append_right Xs
        have h1 : st.set i (.ow ds) = st := by
          apply List.ext_getElem?
          intro j
          by_cases ej : i = j
          · subst ej
            rw [List.getElem?_set_self hlt, e]
          · rw [List.getElem?_set_ne ej]
        rw [h1, hσ] at h0
        exact h0
      have nd := pm.nodup_iff.mp r.rel.nd
      have np' : p ∉ hid Xs (st.set i .un) σ := (List.nodup_cons.mp nd).1
      have sm : ∀ a, a ∈ hid (p :: Xs) (st.set i .un) σ ↔ a ∈ hid Xs st σ := fun a => by
        rw [pm.mem_iff]
        exact (List.perm_middle (a := p) (l₁ := ownd (st.set i .un) σ) (l₂ := Xs)).mem_iff
      have ev : vis (p :: Xs) (st.set i .un) σ H = vis Xs st σ H := msk_congr sm
      refine ⟨.ref p, e1, h (.ref p) σ H q ⟨.lst (by show msk _ H p = _; rw [msk_out np']; exact e2) (dpAll_mono q.ex e3), fun _ => ⟨p, vs, ds, rfl, rfl, r.own i ds p hi e e1, e2, by rw [ev]; exact e3, ?_⟩⟩⟩
      refine ⟨q.rel.rel.len, ?_, fun j d hj => ?_, fun j es hj => ?_, r.rel.xs.cons (by rw [e2]; simp)⟩
      · exact (List.perm_middle (a := p) (l₁ := ownd (st.set i .un) σ) (l₂ := Xs)).nodup_iff.mpr nd
      · rw [ev]
        by_cases ej : i = j
        · subst ej; rw [List.getElem?_set_self hlt] at hj; cases hj
        · rw [List.getElem?_set_ne ej] at hj; exact r.rel.pu j d hj
      · rw [ev]
        by_cases ej : i = j
        · subst ej; rw [List.getElem?_set_self hlt] at hj; cases hj
        · rw [List.getElem?_set_ne ej] at hj; exact r.rel.ow j es hj
  · exact h.elim
theorem xs_if {c : Expr} {t : EvT} {a b : List Stmt} {ea eb : EvS} (hc : PT X c (tT X.K w t)) (ha : PSs X a (tS X.K w P ea)) (hb : PSs X b (tS X.K w P eb)) : PS X (.If c a b pos) (tS X.K w P (sIf t ea eb)) := PS.of (ps_if hc ha hb) fun Dn σ H h => by
  obtain ⟨Xs, B, st, r, h⟩ := h
  refine tT_S r h fun k H1 st1 p h1 => ?_
  cases k with
  | true => exact iteT ⟨Xs, B, st1, p.rel, (show RdS _ _ _ _ _ _ _ _ _ (ea st1) from h1).on p⟩
  | false => exact iteF ⟨Xs, B, st1, p.rel, (show RdS _ _ _ _ _ _ _ _ _ (eb st1) from h1).on p⟩
theorem xs_drop {e : Expr} {ev : EvE} (he : PE X e (tE X.K w ev)) (hs : swapsWith e none pos.line X.env = pure false := by rfl) : PS X (.Expr e pos) (tS X.K w P (sDrop ev)) := PS.of (ps_expr he hs) fun Dn σ H h => by
  obtain ⟨Xs, B, st, r, h⟩ := h
  exact tE_S r h fun v H1 z st1 p1 p v1 h1 => h1 σ H1 p
theorem xs_pass : PS X (.Pass pos) (tS X.K w P sSkip) := PS.of ps_pass fun Dn σ H h => by
  obtain ⟨Xs, B, st, r, h⟩ := h
  exact h σ H (PostS.refl r)
theorem xs_break : PS X (.Break pos) (tS X.K w P fun st => .bk st) := PS.of ps_break fun Dn σ H h => by
  obtain ⟨Xs, B, st, r, h⟩ := h
  exact h σ H (PostS.refl r)
theorem xs_cont : PS X (.Continue pos) (tS X.K w P fun st => .ct st) := PS.of ps_continue fun Dn σ H h => by
  obtain ⟨Xs, B, st, r, h⟩ := h
  exact h σ H (PostS.refl r)
end
end TX

end

section
set_option Elab.async false
set_option linter.all false
set_option maxRecDepth 100000
set_option maxHeartbeats 2000000
namespace TX
open PySem L2 Evl PyProof.Rows

/-! ### what a loop walks -/
structure Src (K : PySem.W.Frag) (J : It) (ds : List D) (C : Hp → Prop) : Prop where
  mono : ∀ M M', Ex M M' → C M → C M'
  stop : ∀ i H M, Ex M H → C M → ds.length ≤ i → J.stop i H
  go : ∀ i H M, Ex M H → C M → i < ds.length → J.go i H
  yld : ∀ Xs st σ i H x H' d, Rel K Xs st σ H → C (vis Xs st σ H) → ds[i]? = some d → J.yld i H x H' → Post K Xs st σ H st H' ∧ Dq K (vis Xs st σ H') x d
abbrev EvI := List Sl → O (List D)
def tI (K : PySem.W.Frag) (w : Wi) (ev : EvI) : TI := fun σ H R => ∃ Xs st, Rel K Xs st σ H ∧ Rdo (ev st) (fun ds st' => ∀ J H' C, Post K Xs st σ H st' H' → Src K J ds C → C (vis Xs st' σ H') → R J H') (exW K w Xs st σ H)
theorem PI.of {X : Cx} {tg iter : Expr} {t t' : TI} (h : PI X tg iter t) (w : ∀ σ H R, t' σ H R → t σ H R) : PI X tg iter t' := ⟨fun pins s σ H R I q => h.run pins s σ H R I (w σ H R q)⟩
def iSeq (e : EvE) : EvI := fun st => (e st).bind fun z st1 => match z.1 with
  | .tup ds => .ok ds st1
  | .lst ds => .ok ds st1
  | .scr ns => .ok (ns.map .int) st1
  | _ => .no
def D.smallInt? : D → Option Int
  | .int n => if -100000 ≤ n ∧ n ≤ 100000 then some n else none
  | _ => none
def rngD (lo : Int) (n : Nat) : List D := (List.range n).map fun (k : Nat) => .int (lo + (k : Int))
def iRng (a : EvE) : EvI := fun st => (a st).bind fun z st1 => match z.1.smallInt? with
  | some n => .ok (rngD 0 n.toNat) st1
  | none => .no
def iRngB (a b : EvE) : EvI := fun st => (a st).bind fun z st1 => (b st1).bind fun y st2 => match z.1.smallInt?, y.1.smallInt? with
  | some lo, some hi => .ok (rngD lo (hi - lo).toNat) st2
  | _, _ => .no
section
variable {K : PySem.W.Frag}
theorem src_list {a : Addr} {ds : List D} : Src K (Itl K a) ds fun M => ∃ vs, M a = some (.lst vs) ∧ DqAll K M vs ds where
  mono := fun M M' e ⟨vs, h1, h2⟩ => ⟨vs, e _ _ h1, dpAll_mono e h2⟩
  stop := fun i H M e ⟨vs, h1, h2⟩ hi => ⟨vs, SqL.of (e _ _ h1), by rw [dpAll_len h2]; exact hi⟩
  go := fun i H M e ⟨vs, h1, h2⟩ hi => ⟨vs, vs[i]'(by rw [dpAll_len h2]; exact hi), SqL.of (e _ _ h1), List.getElem?_eq_getElem _⟩
  yld := fun Xs st σ i H x H' d r ⟨vs, h1, h2⟩ hd ⟨e, hy⟩ => by
    subst e
    obtain ⟨v, e1, e2⟩ := dpAll_getD h2 hd
    have e3 := hy vs (SqL.of (msk_ex _ _ h1))
    rw [e1] at e3
    cases e3
    exact ⟨Post.refl r, e2⟩
theorem src_tup {a : Addr} {ds : List D} : Src K (Itt K a) ds fun M => ∃ vs, SqT K M a vs ∧ DqAll K M vs ds where
  mono := fun M M' e ⟨vs, h1, h2⟩ => ⟨vs, ex_t e h1, dpAll_mono e h2⟩
  stop := fun i H M e ⟨vs, h1, h2⟩ hi => ⟨vs, ex_t e h1, by rw [dpAll_len h2]; exact hi⟩
  go := fun i H M e ⟨vs, h1, h2⟩ hi => ⟨vs, vs[i]'(by rw [dpAll_len h2]; exact hi), ex_t e h1, List.getElem?_eq_getElem _⟩
  yld := fun Xs st σ i H x H' d r ⟨vs, h1, h2⟩ hd ⟨e, hy⟩ => by
    subst e
    obtain ⟨v, e1, e2⟩ := dpAll_getD h2 hd
    have e3 := hy vs (ex_t msk_ex h1)
    rw [e1] at e3
    cases e3
    exact ⟨Post.refl r, e2⟩
theorem src_scr {a : Addr} {ns : List Int} : Src K (Itl K a) (ns.map .int) fun M => SqL K M a (ns.map V.int) where
  mono := fun M M' e h1 => ex_l e h1
  stop := fun i H M e h1 hi => ⟨ns.map V.int, ex_l e h1, by rw [List.length_map] at hi ⊢; exact hi⟩
  go := fun i H M e h1 hi => ⟨ns.map V.int, (ns.map V.int)[i]'(by rw [List.length_map] at hi ⊢; exact hi), ex_l e h1, List.getElem?_eq_getElem _⟩
  yld := fun Xs st σ i H x H' d r h1 hd ⟨e, hy⟩ => by
    subst e
    have e3 := hy (ns.map V.int) (ex_l msk_ex h1)
    rw [List.getElem?_map] at hd e3
    cases en : ns[i]? with
    | none => rw [en] at hd; cases hd
    | some n =>
      rw [en] at hd e3
      cases hd
      cases e3
      exact ⟨Post.refl r, .int n⟩
theorem src_rng {lo : Int} {n : Nat} : Src K (Itr lo n) (rngD lo n) fun _ => True where
  mono := fun _ _ _ _ => trivial
  stop := fun i H M _ _ hi => by
    have : (rngD lo n).length = n := by simp [rngD]
    rw [this] at hi
    exact hi
  go := fun i H M _ _ hi => by
    have : (rngD lo n).length = n := by simp [rngD]
    rw [this] at hi
    exact hi
  yld := fun Xs st σ i H x H' d r _ hd ⟨e, hx⟩ => by
    subst e
    subst hx
    unfold rngD at hd
    rw [List.getElem?_map] at hd
    cases en : (List.range n)[i]? with
    | none => rw [en] at hd; cases hd
    | some k =>
      rw [en] at hd
      cases hd
      have hk := List.getElem?_range (n := n) (i := i)
      have : k = i := by
        have h2 := (List.getElem?_eq_some_iff.mp en)
        obtain ⟨h3, h4⟩ := h2
        rw [List.getElem_range] at h4
        exact h4.symm
      subst this
      exact ⟨Post.refl r, .int _⟩
end
theorem smallInt?_of {d : D} {n : Int} (h : d.smallInt? = some n) : d = .int n ∧ -100000 ≤ n ∧ n ≤ 100000 := by
  cases d with
  | int k =>
    simp only [D.smallInt?] at h
    split at h
    · next hc => cases h; exact ⟨rfl, hc⟩
    · cases h
  | _ => cases h
section
variable {X : Cx} {w : Wi} {tg : Expr}
theorem xi_seq {e : Expr} {ev : EvE} (he : PE X e (tE X.K w ev)) : PI X tg e (tI X.K w (iSeq ev)) := by
  refine ⟨fun pins s σ H R I h => ?_⟩
  obtain ⟨Xs, st, rel, h⟩ := h
  unfold iSeq at h
  cases ez : ev st with
  | no => rw [ez] at h; exact h.elim
  | ex c d st1 =>
    rw [ez] at h
    exact (pi_list (tg := tg) he).run pins s σ H R I (show iList X.K (tE X.K w ev) σ H R from ⟨Xs, st, rel, by rw [ez]; exact h⟩)
  | ok z st1 =>
    rw [ez] at h
    obtain ⟨d, b⟩ := z
    cases d with
    | tup ds =>
      refine (pi_tup (tg := tg) he).run pins s σ H R I (show iTup X.K (tE X.K w ev) σ H R from ⟨Xs, st, rel, ?_⟩)
      rw [ez]
      intro v H' p q
      cases q.dp with
      | tup h1 h2 => exact ⟨_, rfl, ⟨_, ex_t msk_ex h1⟩, h _ H' _ p src_tup ⟨_, h1, h2⟩⟩
    | lst ds =>
      refine (pi_list (tg := tg) he).run pins s σ H R I (show iList X.K (tE X.K w ev) σ H R from ⟨Xs, st, rel, ?_⟩)
      rw [ez]
      intro v H' p q
      cases q.dp with
      | lst h1 h2 => exact ⟨_, rfl, ⟨_, SqL.of (msk_ex _ _ h1)⟩, h _ H' _ p src_list ⟨_, h1, h2⟩⟩
    | scr ns =>
      refine (pi_list (tg := tg) he).run pins s σ H R I (show iList X.K (tE X.K w ev) σ H R from ⟨Xs, st, rel, ?_⟩)
      rw [ez]
      intro v H' p q
      cases q.dp with
      | scr h1 => exact ⟨_, rfl, ⟨_, ex_l msk_ex h1⟩, h _ H' _ p src_scr h1⟩
    | _ => exact h.elim
theorem xi_rng {a : Expr} {ea : EvE} {p pos : Pos} (hm : X.mg "range" = none) (ha : PE X a (tE X.K w ea)) (hg : Gl X "range" := by rfl) (he : starEach [a] X.env = (false, eval a X.env) :: starEach [] X.env := by rfl) : PI X tg (.Call (.Name "range" p) [a] [] pos) (tI X.K w (iRng ea)) :=
  PI.of (pi_range1 hg hm (pa_cons ha pa_nil he) he) fun σ H R h => by
    obtain ⟨Xs, st, rel, h⟩ := h
    refine tE_seq rel h fun x H1 rx st1 p1 v1 h1 => ?_
    split at h1
    · next n en =>
      obtain ⟨e1, e2, e3⟩ := smallInt?_of en
      have dp := v1.dp
      rw [e1] at dp
      cases dp
      exact ⟨n, rfl, by omega, by omega, h1 _ H1 _ p1 src_rng trivial⟩
    · exact h1.elim
theorem xi_rngB {a b : Expr} {ea eb : EvE} {p pos : Pos} (hm : X.mg "range" = none) (ha : PE X a (tE X.K w ea)) (hb : PE X b (tE X.K w eb)) (hg : Gl X "range" := by rfl) (he : starEach [a, b] X.env = [(false, eval a X.env), (false, eval b X.env)] := by rfl) (he2 : starEach [b] X.env = [(false, eval b X.env)] := by rfl) : PI X tg (.Call (.Name "range" p) [a, b] [] pos) (tI X.K w (iRngB ea eb)) :=
  PI.of (pi_range2 hg hm (pa_cons ha (pa_cons hb pa_nil he2) (by rw [he, he2])) he he2) fun σ H R h => by
    obtain ⟨Xs, st, rel, h⟩ := h
    refine tE_seq rel h fun x H1 rx st1 p1 v1 h1 => ?_
    refine tE_seq p1.rel h1 fun y H2 ry st2 p2 v2 h2 => ?_
    split at h2
    · next lo hi e1 e2 =>
      obtain ⟨a1, a2, a3⟩ := smallInt?_of e1
      obtain ⟨b1, b2, b3⟩ := smallInt?_of e2
      have d1 := v1.dp
      rw [a1] at d1
      cases d1
      have d2 := v2.dp
      rw [b1] at d2
      cases d2
      exact ⟨lo, hi, rfl, ⟨by omega, by omega, by omega, by omega⟩, h2 _ H2 _ (p1.trans p2) src_rng trivial⟩
    · exact h2.elim
end

/-! ### targets -/
def TgS (K : PySem.W.Frag) (P : List Nat) (g : TG) (put : D → List Sl → SO) : Prop := ∀ (w : Wi) (Xs : List Addr) (B : Hp) (st : List Sl) (σ : L2.St) (H : Hp) (Dn : Ends) (x : V) (d : D),
  RelS K Xs P B st σ H → Dq K (vis Xs st σ H) x d → RdS K w Xs P B st σ H Dn (put d st) → g x σ H Dn.nx
def putN (P : List Nat) (i : Nat) : D → List Sl → SO := fun d st => if i ∈ P ∨ st.length ≤ i then .no else .nx (st.set i (.pu d))
def putT (P : List Nat) (is : List Nat) : D → List Sl → SO := fun d st => match d with
  | .tup ds => putAll P is ds st
  | _ => .no
theorem tg_name {K : PySem.W.Frag} {P : List Nat} {i : Nat} : TgS K P (gName i) (putN P i) := fun w Xs B st σ H Dn x d r q h => by
  unfold putN at h
  split at h
  · exact h.elim
  · next hc => exact h _ _ (relS_set r (fun q => hc (.inl q)) (.inr ⟨d, rfl, q⟩))
theorem tg_tup {K : PySem.W.Frag} {P : List Nat} {is : List Nat} {n : Nat} (hn : is.length = n) : TgS K P (gTup K n (gNames is)) (putT P is) := fun w Xs B st σ H Dn x d r q h => by
  unfold putT at h
  split at h
  · next ds =>
    cases q with
    | tup e1 e2 => exact ⟨_, _, rfl, ex_t msk_ex e1, by rw [dpAll_len e2, ← hn]; exact putAll_len (H := H) h, putAll_of (PostS.refl r) e2 h⟩
  · exact h.elim

/-! ### for, while -/
def sFor (put : D → List Sl → SO) (body : EvS) : List D → EvS
  | [], st => .nx st
  | d :: r, st => match put d st with
    | .nx st1 => match body st1 with
      | .nx s => sFor put body r s
      | .ct s => sFor put body r s
      | .bk s => .nx s
      | o => o
    | o => o
def sForI (put : D → List Sl → SO) (it : EvI) (body : EvS) : EvS := fun st => (it st).toS fun ds st1 => sFor put body ds st1
/-- only a name or names are put -/
def Puts (put : D → List Sl → SO) : Prop := ∀ d st, (∃ s, put d st = .nx s) ∨ put d st = .no
theorem puts_N {P : List Nat} {i : Nat} : Puts (putN P i) := fun d st => by
  unfold putN
  split
  · exact .inr rfl
  · exact .inl ⟨_, rfl⟩
theorem puts_all {P : List Nat} : ∀ {is : List Nat} {ds : List D} {st : List Sl}, (∃ s, putAll P is ds st = .nx s) ∨ putAll P is ds st = .no
  | [], [], st => .inl ⟨st, rfl⟩
  | [], _ :: _, _ => .inr rfl
  | _ :: _, [], _ => .inr rfl
  | i :: is, d :: ds, st => by
    unfold putAll
    split
    · exact .inr rfl
    · exact puts_all
theorem puts_T {P : List Nat} {is : List Nat} : Puts (putT P is) := fun d st => by
  unfold putT
  cases d <;> first | exact puts_all | exact .inr rfl
section
variable {X : Cx} {w : Wi} {P : List Nat} {pos : Pos}
theorem for_of {K : PySem.W.Frag} {g : TG} {put : D → List Sl → SO} {body : EvS} {J : It} {ds : List D} {C : Hp → Prop} {Xs : List Addr} {B : Hp} {st0 st1 : List Sl} {σ : L2.St} {H0 H1 : Hp} {Dn : Ends} (hg : TgS K P g put) (hp : Puts put) (S : Src K J ds C) (p : PostS K Xs P B st0 σ H0 st1 σ H1) (c : C (vis Xs st1 σ H1))
    (h : RdS K w Xs P B st0 σ H0 Dn (sFor put body ds st1)) : ∃ W : Nat → Nat → L2.St → Hp → Prop, (∃ m, W 0 m σ H1) ∧ ∀ i m σ H, W i m σ H →
      (J.stop i H ∧ Dn.nx σ H) ∨ (J.go i H ∧ ∃ N : L2.St → Hp → Prop, (∀ σ' H', N σ' H' → ∃ m', m' < m ∧ W (i + 1) m' σ' H') ∧ ∀ x H', J.yld i H x H' → g x σ H' fun σ2 H2 => tS K w P body { Dn with nx := N, ct := N, bk := Dn.nx } σ2 H2) := by
  refine ⟨fun i m σ' H' => m = ds.length - i ∧ ∃ st, PostS K Xs P B st0 σ H0 st σ' H' ∧ C (vis Xs st σ' H') ∧ RdS K w Xs P B st0 σ H0 Dn (sFor put body (ds.drop i) st), ⟨_, rfl, st1, p, c, by rw [List.drop_zero]; exact h⟩, ?_⟩
  rintro i m σ' H' ⟨hm, st, p', c', h'⟩
  by_cases hi : i < ds.length
  · refine .inr ⟨S.go i H' _ msk_ex c' hi, fun σ2 H2 => ds.length - (i + 1) = ds.length - (i + 1) ∧ ∃ st, PostS K Xs P B st0 σ H0 st σ2 H2 ∧ C (vis Xs st σ2 H2) ∧ RdS K w Xs P B st0 σ H0 Dn (sFor put body (ds.drop (i + 1)) st), fun σ2 H2 q => ⟨ds.length - (i + 1), by omega, q⟩, fun x H2 hy => ?_⟩
    have hd : ds[i]? = some ds[i] := List.getElem?_eq_getElem hi
    obtain ⟨q1, q2⟩ := S.yld Xs st σ' i H' x H2 ds[i] p'.rel.rel c' hd hy
    have p2 := p'.trans (PostS.of p'.rel q1)
    have c2 := S.mono _ _ q1.ex c'
    rw [List.drop_eq_getElem_cons hi] at h'
    unfold sFor at h'
    rcases hp ds[i] st with ⟨s1, e1⟩ | e1
    · rw [e1] at h'
      dsimp only at h'
      refine hg w Xs B st σ' H2 { nx := fun σ2 H3 => tS K w P body { Dn with nx := _, ct := _, bk := Dn.nx } σ2 H3, rt := Dn.rt } x ds[i] p2.rel q2 ?_
      rw [e1]
      intro σ3 H3 p3
      have p4 := p2.trans p3
      refine ⟨Xs, B, s1, p4.rel, ?_⟩
      cases eb : body s1 with
      | nx s =>
        rw [eb] at h'
        exact fun σ4 H4 p5 => ⟨rfl, s, p4.trans p5, S.mono _ _ (p3.ex.trans p5.ex) c2, h'⟩
      | ct s =>
        rw [eb] at h'
        exact fun σ4 H4 p5 => ⟨rfl, s, p4.trans p5, S.mono _ _ (p3.ex.trans p5.ex) c2, h'⟩
      | bk s =>
        rw [eb] at h'
        exact fun σ4 H4 p5 => h' σ4 H4 (p4.trans p5)
      | rt r s =>
        rw [eb] at h'
        exact fun v σ4 H4 p5 => h' v σ4 H4 (p4.trans p5)
      | ex c d s =>
        rw [eb] at h'
        exact fun dx v σ4 H4 p5 => h' dx v σ4 H4 (p4.trans p5)
      | no =>
        rw [eb] at h'
        exact h'.elim
    · rw [e1] at h'
      exact h'.elim
  · left
    have e : ds.drop i = [] := List.drop_eq_nil_of_le (by omega)
    rw [e] at h'
    exact ⟨S.stop i H' _ msk_ex c' (by omega), h' σ' H' p'⟩
theorem xs_for {tg iter : Expr} {body : List Stmt} {g : TG} {put : D → List Sl → SO} {it : EvI} {eb : EvS} (hi : PI X tg iter (tI X.K w it)) (hg : PG X tg g) (hS : TgS X.K P g put) (hP : Puts put) (hb : PSs X body (tS X.K w P eb)) (hp : PassesOwn (model X.prog X.w) X.A X.env X.xe) (hc : X.calm = true)
    (hs : ∀ x, foldedSetIterable iter X.env x = pure x := by intro _; rfl) : PS X (.For tg iter body [] pos) (tS X.K w P (sForI put it eb)) :=
  PS.of (ps_for hp hc hi hg hb hs) fun Dn σ H h => by
    obtain ⟨Xs, B, st, r, h⟩ := h
    unfold sForI at h
    refine ⟨Xs, st, r.rel, ?_⟩
    cases e : it st with
    | ok ds st1 =>
      rw [e] at h
      exact fun J H1 C p S c => for_of hS hP S (.of r p) c h
    | ex c d st1 =>
      rw [e] at h
      exact exS_of r h
    | no =>
      rw [e] at h
      exact h
/-- while, so many turns at most -/
def sWhN (t : EvT) (body : EvS) : Nat → EvS
  | 0, _ => .no
  | n + 1, st => (t st).toS fun c st1 => if c = true then (match body st1 with
    | .nx s => sWhN t body n s
    | .ct s => sWhN t body n s
    | .bk s => .nx s
    | o => o) else .nx st1
open Classical in
noncomputable def sWh (t : EvT) (body : EvS) : EvS := fun st => if h : ∃ n, sWhN t body n st ≠ .no then sWhN t body (choose h) st else .no
theorem toS_no {α : Type} {o : O α} {f : α → List Sl → SO} (h : o.toS f ≠ .no) : o ≠ .no := fun e => h (by rw [e]; rfl)
theorem sWhN_more {t : EvT} {body : EvS} : ∀ {n m : Nat} {st : List Sl}, n ≤ m → sWhN t body n st ≠ .no → sWhN t body m st = sWhN t body n st
  | 0, _, _, _, h => absurd rfl h
  | n + 1, 0, _, hm, _ => absurd hm (by omega)
  | n + 1, m + 1, st, hm, h => by
    show (t st).toS _ = (t st).toS _
    have h' : (t st).toS (fun c st1 => if c = true then (match body st1 with | .nx s => sWhN t body n s | .ct s => sWhN t body n s | .bk s => .nx s | o => o) else .nx st1) ≠ .no := h
    cases et : t st with
    | ok c st1 =>
      rw [et] at h'
      cases c with
      | false => rfl
      | true =>
        have h2 : (match body st1 with | .nx s => sWhN t body n s | .ct s => sWhN t body n s | .bk s => .nx s | o => o) ≠ SO.no := h'
        show (match body st1 with | .nx s => sWhN t body m s | .ct s => sWhN t body m s | .bk s => .nx s | o => o) = (match body st1 with | .nx s => sWhN t body n s | .ct s => sWhN t body n s | .bk s => .nx s | o => o)
        cases eb : body st1 with
        | nx s => rw [eb] at h2; exact sWhN_more (by omega) h2
        | ct s => rw [eb] at h2; exact sWhN_more (by omega) h2
        | _ => rfl
    | ex c d st1 => rfl
    | no => rfl
/-- a run that ends is the loop's -/
theorem sWh_eq {t : EvT} {body : EvS} {n : Nat} {st : List Sl} {o : SO} (h : sWhN t body n st = o) (ho : o ≠ .no) : sWh t body st = o := by
  have ex : ∃ n, sWhN t body n st ≠ .no := ⟨n, by rw [h]; exact ho⟩
  unfold sWh
  rw [dif_pos ex]
  have hc := Classical.choose_spec ex
  rcases Nat.le_total (Classical.choose ex) n with hl | hl
  · rw [← h, sWhN_more hl hc]
  · rw [sWhN_more hl (by rw [h]; exact ho), h]
theorem xs_while {c : Expr} {body : List Stmt} {t : EvT} {eb : EvS} (hc : PT X c (tT X.K w t)) (hb : PSs X body (tS X.K w P eb)) (hp : PassesOwn (model X.prog X.w) X.A X.env X.xe) : PS X (.While c body [] pos) (tS X.K w P (sWh t eb)) :=
  PS.of (ps_while hp hc hb) fun Dn σ H h => by
    obtain ⟨Xs, B, st, r, h⟩ := h
    unfold sWh at h
    split at h
    · next ex =>
      refine ⟨fun m σ' H' => ∃ st', PostS X.K Xs P B st σ H st' σ' H' ∧ RdS X.K w Xs P B st σ H Dn (sWhN t eb m st'), ⟨_, st, PostS.refl r, h⟩, ?_⟩
      rintro m σ' H' ⟨st', p', h'⟩
      cases m with
      | zero => exact h'.elim
      | succ m =>
        have h2 : RdS X.K w Xs P B st σ H Dn ((t st').toS fun c st1 => if c = true then (match eb st1 with | .nx s => sWhN t eb m s | .ct s => sWhN t eb m s | .bk s => .nx s | o => o) else .nx st1) := h'
        refine ⟨Xs, st', p'.rel.rel, ?_⟩
        cases et : t st' with
        | no => rw [et] at h2; exact h2.elim
        | ex c d st1 =>
          rw [et] at h2
          exact exS_of p'.rel (RdS.on p' (o := .ex c d st1) h2)
        | ok b st1 =>
          rw [et] at h2
          intro H1 q1
          have p1 := p'.trans (.of p'.rel q1)
          cases b with
          | false => exact iteF (h2 σ' H1 p1)
          | true =>
            refine iteT ⟨fun σ2 H2 => ∃ st', PostS X.K Xs P B st σ H st' σ2 H2 ∧ RdS X.K w Xs P B st σ H Dn (sWhN t eb m st'), fun σ2 H2 q => ⟨m, Nat.lt_succ_self m, q⟩, Xs, B, st1, p1.rel, ?_⟩
            have h3 : RdS X.K w Xs P B st σ H Dn (match eb st1 with | .nx s => sWhN t eb m s | .ct s => sWhN t eb m s | .bk s => .nx s | o => o) := h2
            cases e2 : eb st1 with
            | nx s => rw [e2] at h3; exact fun σ4 H4 p5 => ⟨s, p1.trans p5, h3⟩
            | ct s => rw [e2] at h3; exact fun σ4 H4 p5 => ⟨s, p1.trans p5, h3⟩
            | bk s => rw [e2] at h3; exact fun σ4 H4 p5 => h3 σ4 H4 (p1.trans p5)
            | rt r s => rw [e2] at h3; exact fun v σ4 H4 p5 => h3 v σ4 H4 (p1.trans p5)
            | ex c d s => rw [e2] at h3; exact fun dx v σ4 H4 p5 => h3 dx v σ4 H4 (p1.trans p5)
            | no => rw [e2] at h3; exact h3.elim
    · exact h.elim
end
end TX

end

section
set_option Elab.async false
set_option linter.all false
set_option maxRecDepth 100000
set_option maxHeartbeats 2000000
namespace TX
open PySem L2 Evl PyProof.Rows

/-! ### what a def promises: from its arguments' slots to a value -/
def spF (K : PySem.W.Frag) (cl : Nat → Addr) (φ : EvE) : Sp := fun vs H Q E => tE K ⟨fun c dx _ H' => E c dx H', cl⟩ φ (vs.map some) H Q
/-- the places of the lists that are handed in to be written -/
def owsAt : Nat → List Sl → List Nat
  | _, [] => []
  | n, .ow _ :: r => n :: owsAt (n + 1) r
  | n, _ :: r => owsAt (n + 1) r
theorem owsAt_mem : ∀ {n : Nat} {st : List Sl} {i : Nat} {ds : List D}, st[i]? = some (.ow ds) → n + i ∈ owsAt n st
  | n, s :: r, 0, ds, h => by
    simp at h
    subst h
    exact List.mem_cons_self
  | n, s :: r, i + 1, ds, h => by
    have ih := owsAt_mem (n := n + 1) (st := r) (i := i) (ds := ds) (by simpa using h)
    have e : n + 1 + i = n + (i + 1) := by omega
    rw [e] at ih
    cases s with
    | ow _ => exact List.mem_cons_of_mem _ ih
    | un => exact ih
    | pu _ => exact ih
  | _, [], _, _, h => by simp at h
theorem owsAt_of : ∀ {n : Nat} {st : List Sl} {j : Nat}, j ∈ owsAt n st → ∃ i ds, j = n + i ∧ st[i]? = some (.ow ds)
  | n, [], j, h => by cases h
  | n, s :: r, j, h => by
    cases s with
    | ow ds =>
      rcases List.mem_cons.mp h with e | h
      · exact ⟨0, ds, by omega, rfl⟩
      · obtain ⟨i, es, e1, e2⟩ := owsAt_of h
        exact ⟨i + 1, es, by omega, by simpa using e2⟩
    | un =>
      obtain ⟨i, es, e1, e2⟩ := owsAt_of (show j ∈ owsAt (n + 1) r from h)
      exact ⟨i + 1, es, by omega, by simpa using e2⟩
    | pu _ =>
      obtain ⟨i, es, e1, e2⟩ := owsAt_of (show j ∈ owsAt (n + 1) r from h)
      exact ⟨i + 1, es, by omega, by simpa using e2⟩
/-- the arguments' slots behind a run: the written ones as they stand -/
def fixS : List Sl → List Sl → Option (List Sl)
  | [], _ => some []
  | .ow _ :: st, .ow ds :: st' => (fixS st st').map (.ow ds :: ·)
  | .ow _ :: _, _ => none
  | s :: st, _ :: st' => (fixS st st').map (s :: ·)
  | _ :: _, [] => none
structure FixR (st st' s : List Sl) : Prop where
  len : s.length = st.length
  ow : ∀ (i : Nat) (ds : List D), s[i]? = some (.ow ds) → st'[i]? = some (.ow ds) ∧ ∃ ds', st[i]? = some (.ow ds')
  ow' : ∀ (i : Nat) (ds : List D), st[i]? = some (.ow ds) → ∃ ds', s[i]? = some (.ow ds')
  pu : ∀ (i : Nat) (d : D), s[i]? = some (.pu d) → st[i]? = some (.pu d)
theorem FixR.cons {st st' s : List Sl} {a b c : Sl} (h : FixR st st' s) (h1 : ∀ ds, c = .ow ds → b = .ow ds ∧ ∃ ds', a = .ow ds') (h2 : ∀ ds, a = .ow ds → ∃ ds', c = .ow ds') (h3 : ∀ d, c = .pu d → a = .pu d) : FixR (a :: st) (b :: st') (c :: s) where
  len := by rw [List.length_cons, List.length_cons, h.len]
  ow := fun i ds e => by
    cases i with
    | zero =>
      simp at e
      obtain ⟨q1, ds', q2⟩ := h1 ds e
      exact ⟨by simp [q1], ds', by simp [q2]⟩
    | succ i => simpa using h.ow i ds (by simpa using e)
  ow' := fun i ds e => by
    cases i with
    | zero =>
      simp at e
      obtain ⟨ds', q2⟩ := h2 ds e
      exact ⟨ds', by simp [q2]⟩
    | succ i => simpa using h.ow' i ds (by simpa using e)
  pu := fun i d e => by
    cases i with
    | zero =>
      simp at e
      simp [h3 d e]
    | succ i => simpa using h.pu i d (by simpa using e)
theorem fixS_of : ∀ {st st' s : List Sl}, fixS st st' = some s → FixR st st' s
  | [], st', s, h => by
    unfold fixS at h
    cases h
    exact ⟨rfl, fun i ds e => by simp at e, fun i ds e => by simp at e, fun i d e => by simp at e⟩
  | a :: st, [], s, h => by cases a <;> cases h
  | a :: st, b :: st', s, h => by
    have go : ∀ (c : Sl), (fixS st st').map (c :: ·) = some s → ∃ t, fixS st st' = some t ∧ s = c :: t := fun c e => by
      cases q : fixS st st' with
      | none => rw [q] at e; cases e
      | some t => rw [q] at e; cases e; exact ⟨t, rfl, rfl⟩
    cases a with
    | ow ds0 =>
      cases b with
      | ow ds =>
        obtain ⟨t, e1, rfl⟩ := go _ h
        exact (fixS_of e1).cons (fun es e => ⟨e, _, rfl⟩) (fun es e => ⟨_, rfl⟩) (fun d e => by cases e)
      | un => cases h
      | pu _ => cases h
    | un =>
      obtain ⟨t, e1, rfl⟩ := go .un h
      exact (fixS_of e1).cons (fun es e => by cases e) (fun es e => by cases e) (fun d e => e)
    | pu d0 =>
      obtain ⟨t, e1, rfl⟩ := go (.pu d0) h
      exact (fixS_of e1).cons (fun es e => by cases e) (fun es e => by cases e) (fun d e => e)
/-- the same lists are owned at the same places -/
theorem ownd_like : ∀ {st s : List Sl} {σ : L2.St}, (∀ (i : Nat), (∃ ds, st[i]? = some (.ow ds)) ↔ ∃ ds, s[i]? = some (.ow ds)) → s.length = st.length → ownd s σ = ownd st σ
  | [], [], _, _, _ => by unfold ownd; rfl
  | [], _ :: _, _, _, h => by simp at h
  | _ :: _, [], _, _, h => by simp at h
  | a :: st, c :: s, [], _, _ => by rw [ownd_nil_r, ownd_nil_r]
  | a :: st, c :: s, x :: σ, h, hl => by
    have ih := ownd_like (st := st) (s := s) (σ := σ) (fun i => by simpa using h (i + 1)) (by simpa using hl)
    have h0 := h 0
    cases a with
    | ow ds =>
      obtain ⟨ds', e⟩ := h0.mp ⟨ds, rfl⟩
      simp at e
      subst e
      show ownd (.ow ds' :: s) (x :: σ) = ownd (.ow ds :: st) (x :: σ)
      cases x with
      | none => exact ih
      | some v =>
        cases v with
        | ref p => exact congrArg (p :: ·) ih
        | _ => exact ih
    | un =>
      cases c with
      | ow ds => obtain ⟨_, e⟩ := h0.mpr ⟨ds, rfl⟩; simp at e
      | un => exact ih
      | pu _ => exact ih
    | pu d =>
      cases c with
      | ow ds => obtain ⟨_, e⟩ := h0.mpr ⟨ds, rfl⟩; simp at e
      | un => exact ih
      | pu _ => exact ih
section
variable {K : PySem.W.Frag} {Xs Xs' : List Addr} {st st' s : List Sl} {σ0 σ' : L2.St} {H H' : Hp}
theorem FixR.rel (F : FixR st st' s) (r0 : Rel K Xs st σ0 H) (ex : Ex (vis Xs st σ0 H) (vis Xs' st' σ' H')) (r1 : Rel K Xs' st' σ' H') (keep : ∀ (i : Nat) (ds : List D), st[i]? = some (.ow ds) → σ'[i]? = σ0[i]?) :
    Rel K Xs' s σ0 H' ∧ Ex (vis Xs' st' σ' H') (vis Xs' s σ0 H') := by
  have sub : ∀ a, a ∈ ownd s σ0 → a ∈ ownd st' σ' := fun a ha => by
    obtain ⟨i, ds, h1, h2⟩ := ownd_of ha
    obtain ⟨h3, ds', h4⟩ := F.ow i ds h1
    exact ownd_mem h3 ((keep i ds' h4).trans h2)
  have exs : Ex (vis Xs' st' σ' H') (vis Xs' s σ0 H') := msk_sub fun a ha => by
    rcases List.mem_append.mp ha with ha | ha
    · exact List.mem_append_left _ (sub a ha)
    · exact List.mem_append_right _ ha
  have eo : ownd s σ0 = ownd st σ0 := ownd_like (fun i => ⟨fun ⟨ds, h⟩ => F.ow' i ds h, fun ⟨ds, h⟩ => (F.ow i ds h).2⟩) F.len
  refine ⟨⟨by rw [F.len]; exact r0.len, ?_, fun i d hi => ?_, fun i ds hi => ?_, r1.xs⟩, exs⟩
  · refine List.nodup_append.mpr ⟨?_, (List.nodup_append.mp r1.nd).2.1, fun a ha b hb e => ?_⟩
    · rw [eo]
      exact (List.nodup_append.mp r0.nd).1
    · exact (List.nodup_append.mp r1.nd).2.2 a (sub a ha) b hb e
  · obtain ⟨v, q1, q2⟩ := r0.pu i d (F.pu i d hi)
    exact ⟨v, q1, dp_mono exs (dp_mono ex q2)⟩
  · obtain ⟨h3, ds', h4⟩ := F.ow i ds hi
    obtain ⟨p, vs, q1, q2, q3⟩ := r1.ow i ds h3
    exact ⟨p, vs, (keep i ds' h4).symm.trans q1, q2, dpAll_mono exs q3⟩
end
/-- a body's run from the arguments' slots -/
def defEv (n np : Nat) (P : List Nat) (eb : EvS) : EvE := fun st => if st.length = np ∧ owsAt 0 st = P then (match eb (st ++ List.replicate (n - np) .un) with
  | .nx st' => match fixS st st' with
    | some s => .ok (.non, false) s
    | none => .no
  | .rt z st' => match fixS st st' with
    | some s => .ok z s
    | none => .no
  | .ex c d st' => match fixS st st' with
    | some s => .ex c d s
    | none => .no
  | _ => .no) else .no
theorem ownd_app : ∀ {st : List Sl} {σ : L2.St} (k : Nat), st.length = σ.length → ownd (st ++ List.replicate k .un) (σ ++ List.replicate k none) = ownd st σ
  | [], [], k, _ => by
    show ownd (List.replicate k .un) (List.replicate k none) = ownd [] []
    induction k with
    | zero => rfl
    | succ k ih => exact ih
  | [], _ :: _, _, h => by simp at h
  | _ :: _, [], _, h => by simp at h
  | a :: st, x :: σ, k, h => by
    have ih := ownd_app (st := st) (σ := σ) k (by simpa using h)
    show ownd (a :: (st ++ List.replicate k .un)) (x :: (σ ++ List.replicate k none)) = ownd (a :: st) (x :: σ)
    cases a with
    | un => exact ih
    | pu _ => exact ih
    | ow ds =>
      cases x with
      | none => exact ih
      | some v =>
        cases v with
        | ref p => exact congrArg (p :: ·) ih
        | _ => exact ih
theorem get_app {st : List Sl} {k i : Nat} {s : Sl} (hs : s ≠ .un) (h : (st ++ List.replicate k .un)[i]? = some s) : st[i]? = some s := by
  by_cases hi : i < st.length
  · rw [List.getElem?_append_left hi] at h
    exact h
  · rw [List.getElem?_append_right (by omega), List.getElem?_replicate] at h
    split at h
    · cases h; exact absurd rfl hs
    · cases h
theorem get_app_l {α : Type} {a b : List α} {i : Nat} {x : α} (h : a[i]? = some x) : (a ++ b)[i]? = some x := by
  rw [List.getElem?_append_left (List.getElem?_eq_some_iff.mp h).1]
  exact h
theorem start_eq (N : List Str) (vs : List V) : L2.start N vs = vs.map some ++ List.replicate (N.length - vs.length) none := rfl
section
variable {K : PySem.W.Frag} {cl : Nat → Addr} {N ps : List Str} {P : List Nat} {eb : EvS} {vs : List V} {H : Hp} {Q : VK} {E : XK}
theorem spF_len {n np : Nat} (h : spF K cl (defEv n np P eb) vs H Q E) : vs.length = np := by
  obtain ⟨Xs, st, rel, h⟩ := h
  unfold defEv at h
  split at h
  · next hc => rw [← hc.1, rel.len, List.length_map]
  · exact h.elim
theorem def_reads (h : spF K cl (defEv N.length ps.length P eb) vs H Q E) : tS K ⟨fun c dx _ H' => E c dx H', cl⟩ P eb { nx := fun _ H' => Q .non H', rt := Q } (L2.start N vs) H := by
  obtain ⟨Xs, st, rel, h⟩ := h
  unfold defEv at h
  split at h
  · next hc =>
    obtain ⟨hl, hP⟩ := hc
    have hv : vs.length = ps.length := by rw [← hl, rel.len, List.length_map]
    rw [start_eq, hv]
    have eo := ownd_app (st := st) (σ := vs.map some) (N.length - ps.length) rel.len
    have ev : ∀ Ys, vis Ys (st ++ List.replicate (N.length - ps.length) .un) (vs.map some ++ List.replicate (N.length - ps.length) none) H = vis Ys st (vs.map some) H := fun Ys => by
      show msk (ownd _ _ ++ Ys) H = _
      rw [eo]
    have R0 : RelS K Xs P H (st ++ List.replicate (N.length - ps.length) .un) (vs.map some ++ List.replicate (N.length - ps.length) none) H := by
      refine ⟨⟨by simp [rel.len], by show (ownd _ _ ++ Xs).Nodup; rw [eo]; exact rel.nd, fun i d hi => ?_, fun i ds hi => ?_, rel.xs⟩, fun i ds p hi h1 _ => ?_, fun a ha => ha⟩
      · obtain ⟨v, q1, q2⟩ := rel.pu i d (get_app (by simp) hi)
        exact ⟨v, get_app_l q1, by rw [ev]; exact q2⟩
      · obtain ⟨p, us, q1, q2, q3⟩ := rel.ow i ds (get_app (by simp) hi)
        exact ⟨p, us, get_app_l q1, q2, by rw [ev]; exact q3⟩
      · have := owsAt_mem (n := 0) (get_app (by simp) h1)
        rw [hP] at this
        rw [Nat.zero_add] at this
        exact absurd this hi
    refine ⟨Xs, H, _, R0, ?_⟩
    have keep : ∀ {st' : List Sl} {σ' : L2.St} {H' : Hp}, PostS K Xs P H (st ++ List.replicate (N.length - ps.length) .un) (vs.map some ++ List.replicate (N.length - ps.length) none) H st' σ' H' → ∀ (i : Nat) (ds : List D), st[i]? = some (.ow ds) → σ'[i]? = (vs.map some)[i]? := fun {st' σ' H'} p i ds hi => by
      have hm := owsAt_mem (n := 0) hi
      rw [hP, Nat.zero_add] at hm
      have hlt : i < (vs.map some).length := by rw [← rel.len]; exact (List.getElem?_eq_some_iff.mp hi).1
      rw [p.keep i hm, List.getElem?_append_left hlt]
    have fin : ∀ {st' s : List Sl} {σ' : L2.St} {H' : Hp}, fixS st st' = some s → PostS K Xs P H (st ++ List.replicate (N.length - ps.length) .un) (vs.map some ++ List.replicate (N.length - ps.length) none) H st' σ' H' → Post K Xs st (vs.map some) H s H' ∧ Ex (vis Xs st' σ' H') (vis Xs s (vs.map some) H') := fun {st' s σ' H'} hf p => by
      have F := fixS_of hf
      have e0 : Ex (vis Xs st (vs.map some) H) (vis Xs st' σ' H') := by rw [← ev Xs]; exact p.ex
      obtain ⟨q1, q2⟩ := F.rel rel e0 p.rel.rel (keep p)
      exact ⟨⟨q1, e0.trans q2, p.xs, p.dom, fun i ds h => (F.ow i ds h).2⟩, q2⟩
    have finV : ∀ {st' s : List Sl} {σ' : L2.St} {H' : Hp} {v : V} {z : R1}, fixS st st' = some s → PostS K Xs P H (st ++ List.replicate (N.length - ps.length) .un) (vs.map some ++ List.replicate (N.length - ps.length) none) H st' σ' H' → ValR K Xs H st' σ' H' v z → Val K Xs (vs.map some) H s H' v z := fun {st' s σ' H' v z} hf p q => by
      obtain ⟨P1, e1⟩ := fin hf p
      refine ⟨dp_mono e1 q.dp, fun hz => ?_⟩
      obtain ⟨a, us, ds, h1, h2, h3, h4, h5, h6⟩ := q.fr hz
      have e0 : Ex (vis Xs st (vs.map some) H) (vis (a :: Xs) st' σ' H') := fun b o hb => by
        have hb2 : vis Xs st' σ' H' b = some o := p.ex b o (by rw [ev Xs]; exact hb)
        obtain ⟨n1, n2⟩ := msk_some hb2
        have ab : b ≠ a := fun z => by
          have := (msk_some hb).2
          rw [z, h3] at this
          cases this
        show msk (ownd st' σ' ++ a :: Xs) H' b = some o
        rw [msk_out]
        · exact n2
        · intro hx
          rcases List.mem_append.mp hx with hx | hx
          · exact n1 (List.mem_append_left _ hx)
          · rcases List.mem_cons.mp hx with hx | hx
            · exact ab hx
            · exact n1 (List.mem_append_right _ hx)
      obtain ⟨q1, q2⟩ := (fixS_of hf).rel rel e0 h6 (keep p)
      exact ⟨a, us, ds, h1, h2, h3, h4, dpAll_mono q2 h5, q1⟩
    cases e : eb (st ++ List.replicate (N.length - ps.length) .un) with
    | nx st' =>
      rw [e] at h
      intro σ' H' p
      dsimp only at h
      split at h
      · next s hf =>
        obtain ⟨P1, e1⟩ := fin hf p
        exact h .non H' P1 (.old .non)
      · exact h.elim
    | rt z st' =>
      rw [e] at h
      intro v σ' H' p q
      dsimp only at h
      split at h
      · next s hf => exact h v H' (fin hf p).1 (finV hf p q)
      · exact h.elim
    | ex c d st' =>
      rw [e] at h
      intro dx v σ' H' p h1 h2
      dsimp only at h
      split at h
      · next s hf =>
        obtain ⟨P1, e1⟩ := fin hf p
        exact h dx v H' P1 (e1 _ _ h1) (dp_mono e1 h2)
      · exact h.elim
    | bk st' => rw [e] at h; exact h.elim
    | ct st' => rw [e] at h; exact h.elim
    | no => rw [e] at h; exact h.elim
  · exact h.elim
end
section
variable {P : Program} {w : World} {K : PySem.W.Frag} {mg : Str → Option Value} {base : Heap}
/-- a def keeps the promise that its body's run tells -/
theorem def_ok {x qual : Str} {st : Stmt} {f : Addr} {fd : FuncData} {N ps : List Str} {k : Nat} {cl : Nat → Addr} {Ps : List Nat} {eb : EvS} (F : Fun K x qual st f fd) (S : FnScope N ps (defScope st))
    (hb : ∀ (cdv : Value) (A : Around) (outer : List Env) (s : Shared) (H : Hp) (E : XK), Room k (A.deeper (envOfC qual (defScope st) s.heap.objs.size f cdv)) →
      PSs (cxOf (L2.CX P w) P w K mg base N qual (defScope st) f cdv A outer s H E) (defBody st) (tS K ⟨fun c dx _ H' => E c dx H', cl⟩ Ps eb)) :
    FnOk P w K mg base (L2.CX P w) (k + 1) f fd ps (spF K cl (defEv N.length ps.length Ps eb)) :=
  F.okX S (fun vs H Q E h => spF_len h) fun cdv A outer s H vs Q E hr h => ⟨_, hb cdv A outer s H E hr, def_reads h⟩
/-- the run may be told otherwise -/
theorem fn_as {f : Addr} {fd : FuncData} {ps : List Str} {k : Nat} {cl : Nat → Addr} {φ ψ : EvE} (F : FnOk P w K mg base (L2.CX P w) k f fd ps (spF K cl φ)) (h : ∀ st, ψ st ≠ .no → φ st = ψ st) : FnOk P w K mg base (L2.CX P w) k f fd ps (spF K cl ψ) :=
  F.imp fun vs H Q E q => by
    obtain ⟨Xs, st, rel, q⟩ := q
    refine ⟨Xs, st, rel, ?_⟩
    rw [h st]
    · exact q
    · intro e
      rw [e] at q
      exact q
end
end TX

end

section
set_option Elab.async false
set_option linter.all false
set_option maxRecDepth 100000
set_option maxHeartbeats 2000000
namespace TX
open PySem L2 Evl PyProof.Rows

/-! ### calls whose arguments are values -/
section
variable {K : PySem.W.Frag} {Xs Ys : List Addr} {st : List Sl} {σ : L2.St} {H : Hp}
def pus (ds : List D) : List Sl := ds.map .pu
theorem ownd_pus : ∀ (ds : List D) (σ : L2.St), ownd (pus ds) σ = []
  | [], σ => by unfold pus; unfold ownd; rfl
  | d :: ds, [] => ownd_nil_r _
  | d :: ds, x :: σ => by show ownd (pus ds) σ = []; exact ownd_pus ds σ
theorem rel_pus {M : List Addr} : ∀ {ds : List D} {vs : List V}, DqAll K (msk M H) vs ds → M.Nodup → XsOk K M H → Rel K M (pus ds) (vs.map some) H := fun {ds vs} h hn hx => by
  have ev : vis M (pus ds) (vs.map some) H = msk M H := by show msk (ownd _ _ ++ M) H = _; rw [ownd_pus]; rfl
  refine ⟨by simp [pus, dpAll_len h], by show (ownd _ _ ++ M).Nodup; rw [ownd_pus]; exact hn, fun i d hi => ?_, fun i es hi => ?_, hx⟩
  · unfold pus at hi
    rw [List.getElem?_map] at hi
    cases e : ds[i]? with
    | none => rw [e] at hi; cases hi
    | some d' =>
      rw [e] at hi
      cases hi
      obtain ⟨v, h1, h2⟩ := dpAll_getD h e
      exact ⟨v, by rw [List.getElem?_map, h1]; rfl, by rw [ev]; exact h2⟩
  · unfold pus at hi
    rw [List.getElem?_map] at hi
    cases e : ds[i]? with
    | none => rw [e] at hi; cases hi
    | some d' => rw [e] at hi; cases hi
theorem rel_dom (r : Rel K Xs st σ H) : XsOk K (hid Xs st σ) H := r.xs.to (fun x hx => by
  rcases List.mem_append.mp hx with h | h
  · obtain ⟨vs, e⟩ := rel_ownd r h
    rw [e]; simp
  · exact r.xs.ne x h) fun x hx => .inl (List.mem_append_right _ hx)
theorem noOw {s a : List Sl} (ha : ∀ (i : Nat) (ds : List D), a[i]? ≠ some (.ow ds)) (h : OwLess a s) : ∀ σ : L2.St, ownd s σ = [] := fun σ => by
  cases e : ownd s σ with
  | nil => rfl
  | cons p r =>
    obtain ⟨i, ds, h1, _⟩ := ownd_of (p := p) (st := s) (σ := σ) (by rw [e]; exact List.mem_cons_self)
    obtain ⟨ds', h2⟩ := h i ds h1
    exact absurd h2 (ha i ds')
theorem pus_no (ds : List D) : ∀ (i : Nat) (es : List D), (pus ds)[i]? ≠ some (.ow es) := fun i es h => by
  unfold pus at h
  rw [List.getElem?_map] at h
  cases e : ds[i]? with
  | none => rw [e] at h; cases h
  | some d' => rw [e] at h; cases h
/-- behind a call whose arguments are values: the caller's slots stand -/
theorem rel_back {ds : List D} {σa : L2.St} {a' : List Sl} {H' : Hp} {L : List Addr} (r : Rel K Xs st σ H) (p : Post K (hid Xs st σ) (pus ds) σa H a' H') (q : Rel K (L ++ hid Xs st σ) a' σa H') (hL : ∀ x ∈ L, H x = none) :
    Rel K (L ++ Xs) st σ H' ∧ vis (L ++ hid Xs st σ) a' σa H' = vis (L ++ Xs) st σ H' ∧ Ex (vis Xs st σ H) (vis (L ++ Xs) st σ H') := by
  have o1 := noOw (pus_no ds) p.ol σa
  have e1 : vis (hid Xs st σ) (pus ds) σa H = vis Xs st σ H := by show msk (ownd _ _ ++ hid Xs st σ) H = _; rw [ownd_pus]; rfl
  have e2 : vis (L ++ hid Xs st σ) a' σa H' = vis (L ++ Xs) st σ H' := by
    show msk (ownd a' σa ++ (L ++ (ownd st σ ++ Xs))) H' = msk (ownd st σ ++ (L ++ Xs)) H'
    rw [o1]
    refine msk_congr fun a => ?_
    simp only [List.nil_append, List.mem_append]
    constructor <;> (rintro (h | h | h) <;> simp [h])
  have e3 : vis (hid Xs st σ) a' σa H' = vis Xs st σ H' := by show msk (ownd _ _ ++ hid Xs st σ) H' = _; rw [o1]; rfl
  have ex0 : Ex (vis Xs st σ H) (vis Xs st σ H') := by rw [← e1, ← e3]; exact p.ex
  have ex : Ex (vis Xs st σ H) (vis (L ++ Xs) st σ H') := fun b o hb => by
    obtain ⟨n1, n2⟩ := msk_some (ex0 b o hb)
    have nl : b ∉ L := fun z => by
      have := (msk_some hb).2
      rw [hL b z] at this
      cases this
    show msk (ownd st σ ++ (L ++ Xs)) H' b = some o
    rw [msk_out]
    · exact n2
    · intro hx
      simp only [List.mem_append] at hx
      rcases hx with h | h | h
      · exact n1 (List.mem_append_left _ h)
      · exact nl h
      · exact n1 (List.mem_append_right _ h)
  have xs' : XsOk K (L ++ Xs) H' := q.xs.to (fun x hx => q.xs.ne x (by
      rcases List.mem_append.mp hx with h | h
      · exact List.mem_append_left _ h
      · exact List.mem_append_right _ (List.mem_append_right _ h))) fun x hx => by
    rcases List.mem_append.mp hx with h | h
    · exact .inl (List.mem_append_left _ h)
    · rcases List.mem_append.mp h with h2 | h2
      · obtain ⟨vs, e⟩ := rel_ownd r h2
        exact .inr ⟨vs, ((p.xs x h).lst e).trans e⟩
      · exact .inl (List.mem_append_right _ h2)
  refine ⟨⟨r.len, ?_, fun i d hi => ?_, fun i es hi => ?_, xs'⟩, e2, ex⟩
  · have nd := q.nd
    have nd2 : (ownd a' σa ++ (L ++ (ownd st σ ++ Xs))).Nodup := nd
    rw [o1, List.nil_append] at nd2
    show (ownd st σ ++ (L ++ Xs)).Nodup
    have pm : (L ++ (ownd st σ ++ Xs)).Perm (ownd st σ ++ (L ++ Xs)) := by
      rw [← List.append_assoc, ← List.append_assoc]
      exact List.Perm.append_right Xs List.perm_append_comm
    exact pm.nodup_iff.mp nd2
  · obtain ⟨v, q1, q2⟩ := r.pu i d hi
    exact ⟨v, q1, dp_mono ex q2⟩
  · obtain ⟨a, us, q1, q2, q3⟩ := r.ow i es hi
    exact ⟨a, us, q1, ((p.xs a (List.mem_append_left _ (ownd_mem hi q1))).lst q2).trans q2, dpAll_mono ex q3⟩
end
def eCallP (a : EvA) (pm : List D → List D) (φ : EvE) : EvE := fun st => (a st).bind fun ds st1 => match φ (pus (pm ds)) with
  | .ok z _ => .ok z st1
  | .ex c d _ => .ex c d st1
  | .no => .no
theorem callP_of {K : PySem.W.Frag} {w : Wi} {Xs : List Addr} {st st1 : List Sl} {σ : L2.St} {H H1 : Hp} {ds : List D} {vs : List V} {φ : EvE} {Q : VK} (p1 : Post K Xs st σ H st1 H1) (hv : DqAll K (vis Xs st1 σ H1) vs ds)
    (h : Rdo (match φ (pus ds) with | .ok z _ => .ok z st1 | .ex c d _ => .ex c d st1 | .no => (.no : O R1)) (fun z st' => ∀ v H', Post K Xs st σ H st' H' → Val K Xs σ H st' H' v z → Q v H') (exW K w Xs st σ H)) :
    spF K w.cl φ vs H1 Q (fun c dx H' => w.W c dx σ H') := by
  refine ⟨hid Xs st1 σ, pus ds, rel_pus hv p1.rel.nd (rel_dom p1.rel), ?_⟩
  have ea : vis (hid Xs st1 σ) (pus ds) (vs.map some) H1 = vis Xs st1 σ H1 := by show msk (ownd _ _ ++ hid Xs st1 σ) H1 = _; rw [ownd_pus]; rfl
  have post : ∀ {a' : List Sl} {H' : Hp}, Post K (hid Xs st1 σ) (pus ds) (vs.map some) H1 a' H' → Post K Xs st σ H st1 H' ∧ vis (hid Xs st1 σ) a' (vs.map some) H' = vis Xs st1 σ H' := fun {a' H'} p => by
    obtain ⟨q1, q2, q3⟩ := rel_back (L := []) p1.rel p p.rel (fun _ h => by cases h)
    exact ⟨p1.trans ⟨q1, q3, fun x hx => p.xs x (List.mem_append_right _ hx), p.dom, OwLess.refl _⟩, q2⟩
  cases e : φ (pus ds) with
  | ok z a' =>
    rw [e] at h
    intro v H' p q
    obtain ⟨P, e2⟩ := post p
    refine h v H' P ⟨by rw [← e2]; exact q.dp, fun hz => ?_⟩
    obtain ⟨b, us, es, h1, h2, h3, h4, h5, h6⟩ := q.fr hz
    obtain ⟨q1, q2, _⟩ := rel_back (L := [b]) p1.rel p h6 (fun x hx => by rw [List.mem_singleton.mp hx]; exact h3)
    have q2' : vis (b :: hid Xs st1 σ) a' (vs.map some) H' = vis (b :: Xs) st1 σ H' := q2
    exact ⟨b, us, es, h1, h2, p1.dom b h3, h4, by rw [← q2']; exact h5, q1⟩
  | ex c d a' =>
    rw [e] at h
    intro dx v H' p h1 h2
    obtain ⟨P, e2⟩ := post p
    exact h dx v H' P (by rw [← e2]; exact h1) (by rw [← e2]; exact h2)
  | no =>
    rw [e] at h
    exact h
section
variable {X : Cx} {w : Wi} {x : Str} {p pos : Pos} {e : Expr} {es : List Expr} {ea : EvA} {k : Nat} {f : Addr} {fd : FuncData} {ps : List Str} {φ : EvE}
theorem x_call (F : FnOk X.prog X.w X.K X.mg X.base (L2.CX X.prog X.w) k f fd ps (spF X.K w.cl φ)) (hr : Room k X.A) (hm : X.mg x = some (.ref f)) (hk : PySem.W.keepIn X.K (.ref f) = true) (hb : Binds X.K fd ps []) (tk : Takes X w.W) (ha : PA X (e :: es) (tA X.K w ea))
    (hg : Gl X x := by rfl) (hdb : (x == ("__debug__" : Str)) = false := by decide) (he : starEach (e :: es) X.env = (false, eval e X.env) :: starEach es X.env := by rfl) (hpl : (backTo pos (starEach es X.env)).any (·.1) = false := by rfl) :
    PE X (.Call (.Name x p) (e :: es) [] pos) (tE X.K w (eCallP ea id φ)) :=
  PE.of (pe_callS (E := WE w.W) F hr hg hm hk hb (fun σ => passAt tk σ) ha hdb he hpl) fun σ H Q h => by
    obtain ⟨Xs, st, rel, h⟩ := h
    refine ⟨Xs, st, rel, ?_⟩
    unfold eCallP at h
    cases e : ea st with
    | ok ds st1 => rw [e] at h; exact fun vs H1 p1 hv => callP_of p1 hv h
    | ex c d st1 => rw [e] at h; exact h
    | no => rw [e] at h; exact h
/-- how a call with keywords binds: n things by place, then the keywords ks; pm puts them in the parameters' order -/
structure KwB (fd : FuncData) (ps ks : List Str) (n : Nat) (pm : {α : Type} → List α → List α) : Prop where
  to : ∀ (s : Shared) (us ws : List Value), us.length = n → ws.length = ks.length → BindsTo s fd ⟨us, ks.zip ws⟩ (ps.zip (pm (us ++ ws)))
  all : ∀ {α β : Type} (R : α → β → Prop) (as : List α) (bs : List β), as.length = n + ks.length → Paired R as bs → Paired R (pm as) (pm bs)
  dq : ∀ (K : PySem.W.Frag) (H : Hp) (vs : List V) (ds : List D), vs.length = n + ks.length → DqAll K H vs ds → DqAll K H (pm vs) (pm ds)
def eCallK (a b : EvA) (m n : Nat) (pm : List D → List D) (φ : EvE) : EvE := fun st => (a st).bind fun ds st1 => (b st1).bind fun es st2 => if ds.length = n ∧ es.length = m then (match φ (pus (pm (ds ++ es))) with
  | .ok z _ => .ok z st2
  | .ex c d _ => .ex c d st2
  | .no => .no) else .no
theorem run_kw {ks : List Str} {n : Nat} {pm : {α : Type} → List α → List α} {pins : List (Addr × Obj)} {σ : L2.St} {H : Hp} {s : Shared} {Q : VK} {us ws : List Value} {vs zs : List V} (F : FnOk X.prog X.w X.K X.mg X.base (L2.CX X.prog X.w) k f fd ps (spF X.K w.cl φ)) (hr : Room k X.A) (hb : KwB fd ps ks n pm) (tk : Takes X w.W)
    (I : Inv X pins σ H s) (r : Vals vs us) (rz : Vals zs ws) (hn : vs.length = n) (hz : zs.length = ks.length) (h : spF X.K w.cl φ (pm (vs ++ zs)) H Q (fun c dx H' => w.W c dx σ H')) : wpAny (model X.prog X.w) X.A (call (.ref f) us (ks.zip ws)) (EP X pins σ Q) X.xe s := by
  have rr : Vals (pm (vs ++ zs)) (pm (us ++ ws)) := hb.all RelV (vs ++ zs) (us ++ ws) (by rw [List.length_append, hn, hz]) (r.append rz)
  have bt := hb.to s us ws (by rw [← r.length]; exact hn) (by rw [← rz.length]; exact hz)
  refine wpAny_call (codeAny_mono (F.run X.A X.stack s H ⟨us, ks.zip ws⟩ (pm (us ++ ws)) (pm (vs ++ zs)) Q (fun c dx H' => w.W c dx σ H') hr I.env0 bt rr h) fun res s' hq => ?_)
  match res, hq with
  | .error ev, hq => exact passAt tk σ pins H s ev s' I hq
  | .ok (.ret u), hq => exact I.after hq
  | .ok .next, hq => exact hq.elim
  | .ok .brk, hq => exact hq.elim
  | .ok .cont, hq => exact hq.elim
theorem callK_of {K : PySem.W.Frag} {ea eb : EvA} {ks : List Str} {n : Nat} {pm : {α : Type} → List α → List α} {σ : L2.St} {H : Hp} {Q : VK} (hb : KwB fd ps ks n pm) (h : tE K w (eCallK ea eb ks.length n pm φ) σ H Q) :
    tA K w ea σ H fun vs H1 => tA K w eb σ H1 fun zs H2 => vs.length = n ∧ zs.length = ks.length ∧ spF K w.cl φ (pm (vs ++ zs)) H2 Q (fun c dx H' => w.W c dx σ H') := by
  obtain ⟨Xs, st, rel, h⟩ := h
  unfold eCallK at h
  refine ⟨Xs, st, rel, ?_⟩
  cases e1 : ea st with
  | ex c d st1 => rw [e1] at h; exact h
  | no => rw [e1] at h; exact h
  | ok ds st1 =>
    rw [e1] at h
    intro vs H1 p1 q1
    have h' : Rdo ((eb st1).bind fun es st2 => if ds.length = n ∧ es.length = ks.length then (match φ (pus (pm (ds ++ es))) with | .ok z _ => .ok z st2 | .ex c d _ => .ex c d st2 | .no => .no) else (.no : O R1)) _ _ := h
    refine ⟨Xs, st1, p1.rel, ?_⟩
    cases e2 : eb st1 with
    | ex c d st2 => rw [e2] at h'; exact exW_on p1 h'
    | no => rw [e2] at h'; exact h'
    | ok es st2 =>
      rw [e2] at h'
      intro zs H2 p2 q2
      have h2 : Rdo (if ds.length = n ∧ es.length = ks.length then (match φ (pus (pm (ds ++ es))) with | .ok z _ => .ok z st2 | .ex c d _ => .ex c d st2 | .no => .no) else (.no : O R1)) _ _ := h'
      split at h2
      · next hc =>
        have hv : vs.length = n := by rw [dpAll_len q1]; exact hc.1
        have hz : zs.length = ks.length := by rw [dpAll_len q2]; exact hc.2
        refine ⟨hv, hz, callP_of (p1.trans p2) (hb.dq _ _ (vs ++ zs) (ds ++ es) (by rw [List.length_append, hv, hz]) (dpAll_append (dpAll_mono p2.ex q1) q2)) h2⟩
      · exact h2.elim
theorem x_callK {eb : EvA} {kws : List Keyword} {ks : List Str} {n : Nat} {pm : {α : Type} → List α → List α} (F : FnOk X.prog X.w X.K X.mg X.base (L2.CX X.prog X.w) k f fd ps (spF X.K w.cl φ)) (hr : Room k X.A) (hm : X.mg x = some (.ref f)) (hk : PySem.W.keepIn X.K (.ref f) = true) (hb : KwB fd ps ks n pm) (tk : Takes X w.W)
    (ha : PA X (e :: es) (tA X.K w ea)) (hkw : PK X kws (tA X.K w eb)) (hg : Gl X x := by rfl) (hall : (backToKw pos (keywordEach kws X.env)).all (·.1.isSome) = true := by rfl) (hks : (backToKw pos (keywordEach kws X.env)).filterMap (·.1) = ks := by rfl)
    (hdb : (x == ("__debug__" : Str)) = false := by decide) (he : starEach (e :: es) X.env = (false, eval e X.env) :: starEach es X.env := by rfl)
    (hpl : ((backTo pos (starEach (e :: es) X.env)).any (·.1) || (backToKw pos (keywordEach kws X.env)).any (·.1.isNone)) = false := by rfl) :
    PE X (.Call (.Name x p) (e :: es) kws pos) (tE X.K w (eCallK ea eb ks.length n pm φ)) := by
  refine ⟨fun pins s σ H Q I h => ?_⟩
  refine wpAny_Call_Name_kw (ld_glob I hg hm ?_ hdb)
  refine PySem.W.callWith_KW (h₀ := X.base) I.ok.mod.kin hk hall (thn (ha.run pos pins s σ H _ I (callK_of hb h)) fun us s1 ⟨vs, H1, I1, r, q⟩ => ?_) hpl he
  refine thn (hkw.run pos pins s1 σ H1 _ I1 q) fun ws s2 ⟨zs, H2, I2, rz, hn, hz, q2⟩ => ⟨I2.kIn, ?_⟩
  rw [hks]
  exact run_kw F hr hb tk I2 r rz hn hz q2
theorem x_callK0 {eb : EvA} {kws : List Keyword} {ks : List Str} {pm : {α : Type} → List α → List α} (F : FnOk X.prog X.w X.K X.mg X.base (L2.CX X.prog X.w) k f fd ps (spF X.K w.cl φ)) (hr : Room k X.A) (hm : X.mg x = some (.ref f)) (hk : PySem.W.keepIn X.K (.ref f) = true) (hb : KwB fd ps ks 0 pm) (tk : Takes X w.W)
    (hkw : PK X kws (tA X.K w eb)) (hg : Gl X x := by rfl) (hall : (backToKw pos (keywordEach kws X.env)).all (·.1.isSome) = true := by rfl) (hks : (backToKw pos (keywordEach kws X.env)).filterMap (·.1) = ks := by rfl)
    (hdb : (x == ("__debug__" : Str)) = false := by decide) (hpl : ((backTo pos (starEach [] X.env)).any (·.1) || (backToKw pos (keywordEach kws X.env)).any (·.1.isNone)) = false := by rfl) :
    PE X (.Call (.Name x p) [] kws pos) (tE X.K w (eCallK aNil eb ks.length 0 pm φ)) := by
  refine ⟨fun pins s σ H Q I h => ?_⟩
  refine wpAny_Call_Name_kw (ld_glob I hg hm ?_ hdb)
  have h1 := callK_of hb h
  have h2 : tA X.K w eb σ H fun zs H2 => zs.length = ks.length ∧ spF X.K w.cl φ (pm zs) H2 Q (fun c dx H' => w.W c dx σ H') := by
    obtain ⟨Xs, st, rel, h1⟩ := h1
    obtain ⟨Ys, st2, rel2, h3⟩ := h1 [] H (Post.refl rel) .nil
    exact ⟨Ys, st2, rel2, h3.mono (fun a s g vs H' p q => by
      obtain ⟨_, g2, g3⟩ := g vs H' p q
      exact ⟨g2, by simpa using g3⟩) fun _ _ _ x => x⟩
  refine PySem.W.callWith_KW0 (h₀ := X.base) I.ok.mod.kin hk hall (thn (hkw.run pos pins s σ H _ I h2) fun ws s2 ⟨zs, H2, I2, rz, hz, q2⟩ => ⟨I2.kIn, ?_⟩) hpl
  rw [hks]
  exact run_kw (us := []) (vs := []) F hr hb tk I2 .nil rz rfl hz (by simpa using q2)
theorem xk_nil : PK X [] (tA X.K w aNil) := ⟨fun pos pins s σ H Q I h => by
  obtain ⟨Xs, st, rel, h⟩ := h
  exact pk_nil.run pos pins s σ H Q I (h [] H (Post.refl rel) .nil)⟩
theorem xk_cons {nm : Option Str} {kpos : Pos} {kws : List Keyword} {ev : EvE} {er : EvA} (ha : PE X e (tE X.K w ev)) (hr : PK X kws (tA X.K w er)) : PK X (⟨nm, e, kpos⟩ :: kws) (tA X.K w (aCons ev er)) := ⟨fun pos pins s σ H Q I h => by
  refine (pk_cons (kpos := kpos) (nm := nm) ha hr).run pos pins s σ H Q I ?_
  obtain ⟨Xs, st, rel, h⟩ := h
  refine tE_seq rel h fun x H1 rx st1 p1 v1 h1 => ?_
  refine tA_seq p1.rel h1 fun xs H2 ds st2 p2 q2 h2 => ?_
  exact h2 (x :: xs) H2 (p1.trans p2) (.cons (dp_mono p2.ex v1.dp) q2)⟩
end
end TX

end

section
set_option Elab.async false
set_option linter.all false
set_option maxRecDepth 100000
set_option maxHeartbeats 2000000
namespace TX
open PySem L2 Evl PyProof.Rows

/-! ### calls that write a list of the caller's -/
/-- an argument: a value; a name's own list; a new list that is given away -/
inductive Ag where
  | v (e : EvE) | io (i : Nat) | tmp (e : EvE)
def agEv : List Ag → List Sl → O (List (Option D))
  | [], st => .ok [] st
  | .v e :: r, st => (e st).bind fun z st1 => (agEv r st1).bind fun os st2 => .ok (some z.1 :: os) st2
  | .io i :: r, st => match st[i]? with
    | some (.ow _) => (agEv r st).bind fun os st2 => .ok (none :: os) st2
    | _ => .no
  | .tmp e :: r, st => (e st).bind fun z st1 => match z with
    | (.lst ds, true) => (agEv r st1).bind fun os st2 => .ok (some (.lst ds) :: os) st2
    | _ => .no
def agT (K : PySem.W.Frag) (w : Wi) : List Ag → TA
  | [] => tNil
  | .v e :: r => tCons (tE K w e) (agT K w r)
  | .io i :: r => tCons (tVar i) (agT K w r)
  | .tmp e :: r => tCons (tE K w e) (agT K w r)
inductive AgOk (K : PySem.W.Frag) (σ : L2.St) (M H : Hp) : List Ag → List V → List (Option D) → List Addr → Prop
  | nil : AgOk K σ M H [] [] [] []
  | v {e : EvE} {r : List Ag} {v : V} {vs : List V} {d : D} {os : List (Option D)} {T : List Addr} : Dq K M v d → AgOk K σ M H r vs os T → AgOk K σ M H (.v e :: r) (v :: vs) (some d :: os) T
  | io {i : Nat} {r : List Ag} {v : V} {vs : List V} {os : List (Option D)} {T : List Addr} : σ[i]? = some (some v) → AgOk K σ M H r vs os T → AgOk K σ M H (.io i :: r) (v :: vs) (none :: os) T
  | tmp {e : EvE} {r : List Ag} {p : Addr} {us vs : List V} {ds : List D} {os : List (Option D)} {T : List Addr} : H p = some (.lst us) → DqAll K M us ds → AgOk K σ M H r vs os T → AgOk K σ M H (.tmp e :: r) (.ref p :: vs) (some (.lst ds) :: os) (p :: T)
section
variable {K : PySem.W.Frag} {w : Wi} {Xs : List Addr} {st : List Sl} {σ : L2.St} {H : Hp}
/-- hidden addresses in another order -/
theorem rel_perm {Xs Ys : List Addr} (h : Xs.Perm Ys) (r : Rel K Xs st σ H) : Rel K Ys st σ H := by
  have pm : (hid Xs st σ).Perm (hid Ys st σ) := h.append_left _
  have e : vis Ys st σ H = vis Xs st σ H := msk_congr fun a => pm.mem_iff.symm
  exact ⟨r.len, pm.nodup_iff.mp r.nd, fun i d hi => by rw [e]; exact r.pu i d hi, fun i ds hi => by rw [e]; exact r.ow i ds hi, r.xs.to (fun x hx => r.xs.ne x (h.mem_iff.mpr hx)) fun x hx => .inl (h.mem_iff.mp hx)⟩
theorem vis_perm {Xs Ys : List Addr} (h : Xs.Perm Ys) : vis Xs st σ H = vis Ys st σ H := msk_congr fun a => (h.append_left (ownd st σ)).mem_iff
/-- hidden lists come to sight -/
theorem rel_show {L : List Addr} (ht : ∀ P ∈ tabs K, P ∈ Xs) (r : Rel K (L ++ Xs) st σ H) : Rel K Xs st σ H ∧ Ex (vis (L ++ Xs) st σ H) (vis Xs st σ H) := by
  have ex : Ex (vis (L ++ Xs) st σ H) (vis Xs st σ H) := msk_sub fun a ha => by
    rcases List.mem_append.mp ha with h | h
    · exact List.mem_append_left _ h
    · exact List.mem_append_right _ (List.mem_append_right _ h)
  refine ⟨⟨r.len, ?_, fun i d hi => ?_, fun i ds hi => ?_, ⟨fun x hx => r.xs.ne x (List.mem_append_right _ hx), fun P hP => ⟨ht P hP, (r.xs.tb P hP).2⟩⟩⟩, ex⟩
  · exact r.nd.sublist ((List.Sublist.refl _).append (List.sublist_append_right L Xs))
  · obtain ⟨v, q1, q2⟩ := r.pu i d hi
    exact ⟨v, q1, dp_mono ex q2⟩
  · obtain ⟨p, vs, q1, q2, q3⟩ := r.ow i ds hi
    exact ⟨p, vs, q1, q2, dpAll_mono ex q3⟩
/-- what was seen is seen behind new hidden lists -/
theorem ex_hide {st' : List Sl} {σ' : L2.St} {H' : Hp} {L : List Addr} (e : Ex (vis Xs st σ H) (vis Xs st' σ' H')) (hL : ∀ x ∈ L, H x = none) : Ex (vis Xs st σ H) (vis (L ++ Xs) st' σ' H') := fun b o hb => by
  obtain ⟨n1, n2⟩ := msk_some (e b o hb)
  have nl : b ∉ L := fun z => by
    have := (msk_some hb).2
    rw [hL b z] at this
    cases this
  show msk (ownd st' σ' ++ (L ++ Xs)) H' b = some o
  rw [msk_out]
  · exact n2
  · intro hx
    simp only [List.mem_append] at hx
    rcases hx with h | h | h
    · exact n1 (List.mem_append_left _ h)
    · exact nl h
    · exact n1 (List.mem_append_right _ h)
theorem post_show {st1 st' : List Sl} {H1 H' : Hp} {p : Addr} (p1 : Post K Xs st σ H st1 H1) (hp : H p = none) (q : Post K (p :: Xs) st1 σ H1 st' H') : Post K Xs st σ H st' H' := by
  obtain ⟨r1, e1⟩ := rel_show (L := [p]) (fun P hP => (p1.rel.xs.tb P hP).1) q.rel
  have e0 : Ex (vis Xs st σ H) (vis ([p] ++ Xs) st1 σ H1) := ex_hide p1.ex fun x hx => by rw [List.mem_singleton.mp hx]; exact hp
  exact ⟨r1, (e0.trans q.ex).trans e1, fun x hx => (p1.xs x hx).trans (q.xs x (List.mem_cons_of_mem _ hx)), fun a h => p1.dom a (q.dom a h), p1.ol.trans q.ol⟩
theorem ag_run : ∀ (ags : List Ag) {Xs : List Addr} {st : List Sl} {H : Hp} {β : Type} {f : List (Option D) → List Sl → O β} {k : β → List Sl → Prop} {x : Nat → D → List Sl → Prop} {Q : List V → Hp → Prop}, Rel K Xs st σ H → Rdo ((agEv ags st).bind f) k x → (∀ c d s, x c d s → exW K w Xs st σ H c d s) →
    (∀ vs H' os T st', Post K Xs st σ H st' H' → Rel K (T ++ Xs) st' σ H' → AgOk K σ (vis (T ++ Xs) st' σ H') H' ags vs os T → (∀ p ∈ T, H p = none) → Rdo (f os st') k x → Q vs H') → agT K w ags σ H Q
  | [], Xs, st, H, β, f, k, x, Q, rel, h, hx, hq => hq [] H [] [] st (Post.refl rel) rel .nil (fun _ h => by cases h) h
  | .v e :: r, Xs, st, H, β, f, k, x, Q, rel, h, hx, hq => by
    show tE K w e σ H _
    refine ⟨Xs, st, rel, ?_⟩
    unfold agEv at h
    cases ez : e st with
    | ex c d s => rw [ez] at h; exact hx c d s h
    | no => rw [ez] at h; exact h
    | ok z st1 =>
      rw [ez] at h
      intro v H1 p1 q1
      have h' : Rdo ((agEv r st1).bind fun os st2 => f (some z.1 :: os) st2) k x := by
        have h0 : Rdo (O.bind ((agEv r st1).bind fun os st2 => .ok (some z.1 :: os) st2) f) k x := h
        cases e2 : agEv r st1 with
        | ok os st2 => rw [e2] at h0; exact h0
        | ex c d s => rw [e2] at h0; exact h0
        | no => rw [e2] at h0; exact h0
      refine ag_run r p1.rel h' (fun c d s g => exW_on p1 (hx c d s g)) fun vs H' os T st' p2 r2 a2 t2 g => ?_
      refine hq (v :: vs) H' (some z.1 :: os) T st' (p1.trans p2) r2 (.v (dp_mono (ex_hide p2.ex t2) q1.dp) a2) (fun p hp => p1.dom p (t2 p hp)) g
  | .io i :: r, Xs, st, H, β, f, k, x, Q, rel, h, hx, hq => by
    unfold agEv at h
    split at h
    · next ds ei =>
      obtain ⟨p, us, e1, e2, e3⟩ := rel.ow i ds ei
      refine ⟨.ref p, e1, ?_⟩
      have h' : Rdo ((agEv r st).bind fun os st2 => f (none :: os) st2) k x := by
        have h0 : Rdo (O.bind ((agEv r st).bind fun os st2 => .ok (none :: os) st2) f) k x := h
        cases e2 : agEv r st with
        | ok os st2 => rw [e2] at h0; exact h0
        | ex c d s => rw [e2] at h0; exact h0
        | no => rw [e2] at h0; exact h0
      exact ag_run r rel h' hx fun vs H' os T st' p2 r2 a2 t2 g => hq (.ref p :: vs) H' (none :: os) T st' p2 r2 (.io e1 a2) t2 g
    · exact h.elim
  | .tmp e :: r, Xs, st, H, β, f, k, x, Q, rel, h, hx, hq => by
    show tE K w e σ H _
    refine ⟨Xs, st, rel, ?_⟩
    unfold agEv at h
    cases ez : e st with
    | ex c d s => rw [ez] at h; exact hx c d s h
    | no => rw [ez] at h; exact h
    | ok z st1 =>
      rw [ez] at h
      intro v H1 p1 q1
      obtain ⟨dz, bz⟩ := z
      cases bz with
      | false =>
        have : Rdo (O.bind (match (dz, false) with | (.lst ds, true) => (agEv r st1).bind fun os st2 => .ok (some (.lst ds) :: os) st2 | _ => .no) f) k x := h
        cases dz <;> exact this.elim
      | true =>
        obtain ⟨p, us, ds, rfl, e2, e3, e4, e5, e6⟩ := q1.fr rfl
        have e2' : dz = .lst ds := e2
        subst e2'
        have h' : Rdo ((agEv r st1).bind fun os st2 => f (some (.lst ds) :: os) st2) k x := by
          have h0 : Rdo (O.bind ((agEv r st1).bind fun os st2 => .ok (some (.lst ds) :: os) st2) f) k x := h
          cases e2 : agEv r st1 with
          | ok os st2 => rw [e2] at h0; exact h0
          | ex c d s => rw [e2] at h0; exact h0
          | no => rw [e2] at h0; exact h0
        refine ag_run r e6 h' (fun c d s g dx u H' q1 q2 q3 => hx c d s g dx u H' (post_show p1 e3 q1) ((rel_show (L := [p]) (fun P hP => (p1.rel.xs.tb P hP).1) q1.rel).2 _ _ q2) (dp_mono (rel_show (L := [p]) (fun P hP => (p1.rel.xs.tb P hP).1) q1.rel).2 q3)) fun vs H' os T st' p2 r2 a2 t2 g => ?_
        have pm : (T ++ p :: Xs).Perm ((p :: T) ++ Xs) := List.perm_middle
        have hp1 : H1 p ≠ none := by rw [e4]; simp
        refine hq (.ref p :: vs) H' (some (.lst ds) :: os) (p :: T) st' (post_show p1 e3 p2) (rel_perm pm r2) ?_ (fun a ha => ?_) g
        · have ev := vis_perm (st := st') (σ := σ) (H := H') pm
          rw [← ev]
          refine .tmp (((p2.xs p List.mem_cons_self).lst e4).trans e4) (dpAll_mono (ex_hide p2.ex t2) e5) a2
        · rcases List.mem_cons.mp ha with h | h
          · rw [h]; exact e3
          · exact p1.dom a (t2 a h)
end
def mkArgs : List Ag → List (Option D) → List Sl → Option (List Sl)
  | [], [], _ => some []
  | .v _ :: r, some d :: os, st => (mkArgs r os st).map (.pu d :: ·)
  | .io i :: r, none :: os, st => match st[i]? with
    | some (.ow ds) => (mkArgs r os st).map (.ow ds :: ·)
    | _ => none
  | .tmp _ :: r, some (.lst ds) :: os, st => (mkArgs r os st).map (.ow ds :: ·)
  | _, _, _ => none
def iosOf : List Ag → List Nat
  | [] => []
  | .io i :: r => i :: iosOf r
  | _ :: r => iosOf r
def updIo : List Ag → List Sl → List Sl → Option (List Sl)
  | [], [], st => some st
  | .io i :: r, .ow ds :: a, st => updIo r a (st.set i (.ow ds))
  | .io _ :: _, _, _ => none
  | .tmp _ :: r, .ow _ :: a, st => updIo r a st
  | .tmp _ :: _, _, _ => none
  | .v _ :: r, _ :: a, st => updIo r a st
  | _, _, _ => none
def eCallA (ags : List Ag) (φ : EvE) : EvE := fun st => (agEv ags st).bind fun os st1 => if (iosOf ags).Nodup then (match mkArgs ags os st1 with
  | none => .no
  | some a => match φ a with
    | .ok z a' => match updIo ags a' st1 with
      | some st2 => .ok z st2
      | none => .no
    | .ex c d a' => match updIo ags a' st1 with
      | some st2 => .ex c d st2
      | none => .no
    | .no => .no) else .no
section
variable {K : PySem.W.Frag} {σ : L2.St} {M H : Hp}
/-- the arguments' slots hold what they should; their lists: the names' and the given ones -/
theorem mk_of : ∀ {ags : List Ag} {vs : List V} {os : List (Option D)} {T : List Addr} {st a : List Sl}, AgOk K σ M H ags vs os T → mkArgs ags os st = some a → (∀ (i : Nat) (ds : List D), st[i]? = some (.ow ds) → ∃ p us, σ[i]? = some (some (.ref p)) ∧ H p = some (.lst us) ∧ DqAll K M us ds) →
    a.length = vs.length ∧ (∀ (i : Nat) (d : D), a[i]? = some (.pu d) → ∃ v, vs[i]? = some v ∧ Dq K M v d) ∧
    (∀ (i : Nat) (ds : List D), a[i]? = some (.ow ds) → ∃ p us, vs[i]? = some (.ref p) ∧ H p = some (.lst us) ∧ DqAll K M us ds) ∧
    (∀ p, p ∈ ownd a (vs.map some) ↔ (∃ i ∈ iosOf ags, σ[i]? = some (some (.ref p))) ∨ p ∈ T) ∧
    (∀ i ∈ iosOf ags, ∃ ds, st[i]? = some (.ow ds))
  | _, _, _, _, st, a, .nil, h, hs => by
    cases h
    exact ⟨rfl, fun i d e => by simp at e, fun i d e => by simp at e, fun p => by simp [ownd, iosOf], fun i hi => by cases hi⟩
  | .v e :: r, v :: vs, some d :: os, T, st, a, .v hd hr, h, hs => by
    have h' : (mkArgs r os st).map (.pu d :: ·) = some a := h
    cases e1 : mkArgs r os st with
    | none => rw [e1] at h'; cases h'
    | some b =>
      rw [e1] at h'
      cases h'
      obtain ⟨q1, q2, q3, q4, q5⟩ := mk_of hr e1 hs
      refine ⟨by simp [q1], fun i d' ei => ?_, fun i ds ei => ?_, fun p => ?_, q5⟩
      · cases i with
        | zero => simp at ei; subst ei; exact ⟨v, rfl, hd⟩
        | succ i => simpa using q2 i d' (by simpa using ei)
      · cases i with
        | zero => simp at ei
        | succ i => simpa using q3 i ds (by simpa using ei)
      · show p ∈ ownd b (vs.map some) ↔ _
        exact q4 p
  | .io i0 :: r, v :: vs, none :: os, T, st, a, .io he hr, h, hs => by
    unfold mkArgs at h
    split at h
    · next ds0 e0 =>
      cases e1 : mkArgs r os st with
      | none => rw [e1] at h; cases h
      | some b =>
        rw [e1] at h
        cases h
        obtain ⟨q1, q2, q3, q4, q5⟩ := mk_of hr e1 hs
        obtain ⟨p0, us, k1, k2, k3⟩ := hs i0 ds0 e0
        have ev : v = .ref p0 := by rw [he] at k1; cases k1; rfl
        subst ev
        refine ⟨by simp [q1], fun i d' ei => ?_, fun i ds ei => ?_, fun p => ?_, fun i hi => ?_⟩
        · cases i with
          | zero => simp at ei
          | succ i => simpa using q2 i d' (by simpa using ei)
        · cases i with
          | zero => simp at ei; subst ei; exact ⟨p0, us, rfl, k2, k3⟩
          | succ i => simpa using q3 i ds (by simpa using ei)
        · show p ∈ p0 :: ownd b (vs.map some) ↔ _
          rw [List.mem_cons, q4 p]
          show _ ↔ (∃ i ∈ i0 :: iosOf r, _) ∨ _
          constructor
          · rintro (h | ⟨i, h1, h2⟩ | h)
            · subst h; exact .inl ⟨i0, List.mem_cons_self, he⟩
            · exact .inl ⟨i, List.mem_cons_of_mem _ h1, h2⟩
            · exact .inr h
          · rintro (⟨i, h1, h2⟩ | h)
            · rcases List.mem_cons.mp h1 with h | h
              · subst h; rw [he] at h2; cases h2; exact .inl rfl
              · exact .inr (.inl ⟨i, h, h2⟩)
            · exact .inr (.inr h)
        · rcases List.mem_cons.mp (show i ∈ i0 :: iosOf r from hi) with h | h
          · subst h; exact ⟨ds0, e0⟩
          · exact q5 i h
    · cases h
  | .tmp e :: r, .ref p0 :: vs, some (.lst ds0) :: os, _ :: T, st, a, .tmp hp hd hr, h, hs => by
    have h' : (mkArgs r os st).map (.ow ds0 :: ·) = some a := h
    cases e1 : mkArgs r os st with
    | none => rw [e1] at h'; cases h'
    | some b =>
      rw [e1] at h'
      cases h'
      obtain ⟨q1, q2, q3, q4, q5⟩ := mk_of hr e1 hs
      refine ⟨by simp [q1], fun i d' ei => ?_, fun i ds ei => ?_, fun p => ?_, q5⟩
      · cases i with
        | zero => simp at ei
        | succ i => simpa using q2 i d' (by simpa using ei)
      · cases i with
        | zero => simp at ei; subst ei; exact ⟨p0, _, rfl, hp, hd⟩
        | succ i => simpa using q3 i ds (by simpa using ei)
      · show p ∈ p0 :: ownd b (vs.map some) ↔ _
        rw [List.mem_cons, q4 p, List.mem_cons]
        show _ ↔ (∃ i ∈ iosOf r, _) ∨ _
        constructor
        · rintro (h | h | h)
          · exact .inr (.inl h)
          · exact .inl h
          · exact .inr (.inr h)
        · rintro (h | h | h)
          · exact .inr (.inl h)
          · exact .inl h
          · exact .inr (.inr h)
/-- each of the arguments' lists once -/
theorem mk_nd : ∀ {ags : List Ag} {vs : List V} {os : List (Option D)} {T : List Addr} {st a : List Sl}, AgOk K σ M H ags vs os T → mkArgs ags os st = some a → (∀ (i : Nat) (ds : List D), st[i]? = some (.ow ds) → ∃ p us, σ[i]? = some (some (.ref p)) ∧ H p = some (.lst us) ∧ DqAll K M us ds) →
    (iosOf ags).Nodup → T.Nodup → (∀ (i : Nat) (p : Addr), i ∈ iosOf ags → σ[i]? = some (some (.ref p)) → p ∉ T) → (∀ (i j : Nat) (p : Addr), i ∈ iosOf ags → j ∈ iosOf ags → σ[i]? = some (some (.ref p)) → σ[j]? = some (some (.ref p)) → i = j) → (ownd a (vs.map some)).Nodup
  | _, _, _, _, st, a, .nil, h, hs, _, _, _, _ => by
    cases h
    exact List.nodup_nil
  | .v e :: r, v :: vs, some d :: os, T, st, a, .v hd hr, h, hs, h1, h2, h3, h4 => by
    have h' : (mkArgs r os st).map (.pu d :: ·) = some a := h
    cases e1 : mkArgs r os st with
    | none => rw [e1] at h'; cases h'
    | some b =>
      rw [e1] at h'
      cases h'
      have ih := mk_nd hr e1 hs h1 h2 h3 h4
      exact ih
  | .io i0 :: r, v :: vs, none :: os, T, st, a, .io he hr, h, hs, h1, h2, h3, h4 => by
    unfold mkArgs at h
    split at h
    · next ds0 e0 =>
      cases e1 : mkArgs r os st with
      | none => rw [e1] at h; cases h
      | some b =>
        rw [e1] at h
        cases h
        obtain ⟨p0, us, k1, k2, k3⟩ := hs i0 ds0 e0
        have ev : v = .ref p0 := by rw [he] at k1; cases k1; rfl
        subst ev
        have nd := List.nodup_cons.mp (show (i0 :: iosOf r).Nodup from h1)
        have ih := mk_nd hr e1 hs nd.2 h2 (fun i p hi => h3 i p (List.mem_cons_of_mem _ hi)) (fun i j p hi hj => h4 i j p (List.mem_cons_of_mem _ hi) (List.mem_cons_of_mem _ hj))
        show (p0 :: ownd b (vs.map some)).Nodup
        refine List.nodup_cons.mpr ⟨fun hm => ?_, ih⟩
        rcases ((mk_of hr e1 hs).2.2.2.1 p0).mp hm with ⟨i, hi, e⟩ | hm
        · have := h4 i0 i p0 List.mem_cons_self (List.mem_cons_of_mem _ hi) k1 e
          exact nd.1 (by rw [this]; exact hi)
        · exact h3 i0 p0 List.mem_cons_self k1 hm
    · cases h
  | .tmp e :: r, .ref p0 :: vs, some (.lst ds0) :: os, _ :: T, st, a, .tmp hp hd hr, h, hs, h1, h2, h3, h4 => by
    have h' : (mkArgs r os st).map (.ow ds0 :: ·) = some a := h
    cases e1 : mkArgs r os st with
    | none => rw [e1] at h'; cases h'
    | some b =>
      rw [e1] at h'
      cases h'
      have nd := List.nodup_cons.mp h2
      have ih := mk_nd hr e1 hs h1 nd.2 (fun i p hi e hm => h3 i p hi e (List.mem_cons_of_mem _ hm)) h4
      show (p0 :: ownd b (vs.map some)).Nodup
      refine List.nodup_cons.mpr ⟨fun hm => ?_, ih⟩
      rcases ((mk_of hr e1 hs).2.2.2.1 p0).mp hm with ⟨i, hi, e⟩ | hm
      · exact h3 i p0 hi e List.mem_cons_self
      · exact nd.1 hm
/-- the caller's slots behind it -/
theorem upd_of : ∀ {ags : List Ag} {vs : List V} {os : List (Option D)} {T : List Addr} {a' st st2 : List Sl}, AgOk K σ M H ags vs os T → updIo ags a' st = some st2 → (iosOf ags).Nodup →
    st2.length = st.length ∧ (∀ (i : Nat), i ∉ iosOf ags → st2[i]? = st[i]?) ∧ (∀ i ∈ iosOf ags, i < st.length → ∃ (j : Nat) (ds : List D), a'[j]? = some (.ow ds) ∧ st2[i]? = some (.ow ds) ∧ ∀ v, σ[i]? = some (some v) → vs[j]? = some v) ∧
    (∀ p ∈ T, ∃ (j : Nat) (ds : List D), a'[j]? = some (.ow ds) ∧ vs[j]? = some (.ref p))
  | _, _, _, _, a', st, st2, .nil, h, _ => by
    cases a' with
    | nil => cases h; exact ⟨rfl, fun _ _ => rfl, fun i hi _ => (by cases hi), fun p hp => (by cases hp)⟩
    | cons _ _ => cases h
  | .v e :: r, v :: vs, some d :: os, T, a', st, st2, .v hd hr, h, hn => by
    cases a' with
    | nil => cases h
    | cons s a' =>
      obtain ⟨q1, q2, q3, q4⟩ := upd_of hr (show updIo r a' st = some st2 from h) hn
      refine ⟨q1, q2, fun i hi hl => ?_, fun p hp => ?_⟩
      · obtain ⟨j, ds, k1, k2, k3⟩ := q3 i hi hl
        exact ⟨j + 1, ds, by simpa using k1, k2, fun v h => by simpa using k3 v h⟩
      · obtain ⟨j, ds, k1, k2⟩ := q4 p hp
        exact ⟨j + 1, ds, by simpa using k1, by simpa using k2⟩
  | .io i0 :: r, v :: vs, none :: os, T, a', st, st2, .io he hr, h, hn => by
    cases a' with
    | nil => cases h
    | cons s a' =>
      cases s with
      | un => cases h
      | pu _ => cases h
      | ow ds0 =>
        have nd := List.nodup_cons.mp (show (i0 :: iosOf r).Nodup from hn)
        obtain ⟨q1, q2, q3, q4⟩ := upd_of hr (show updIo r a' (st.set i0 (.ow ds0)) = some st2 from h) nd.2
        refine ⟨by rw [q1, List.length_set], fun i hi => ?_, fun i hi hl => ?_, fun p hp => ?_⟩
        · have h1 : i ≠ i0 := fun e => hi (by rw [e]; exact List.mem_cons_self)
          have h2 : i ∉ iosOf r := fun e => hi (List.mem_cons_of_mem _ e)
          rw [q2 i h2, List.getElem?_set_ne (Ne.symm h1)]
        · rcases List.mem_cons.mp (show i ∈ i0 :: iosOf r from hi) with e | e
          · subst e
            refine ⟨0, ds0, rfl, ?_, fun v' hv => by rw [he] at hv; cases hv; rfl⟩
            rw [q2 i nd.1, List.getElem?_set_self hl]
          · obtain ⟨j, ds, k1, k2, k3⟩ := q3 i e (by rw [List.length_set]; exact hl)
            exact ⟨j + 1, ds, by simpa using k1, k2, fun v h => by simpa using k3 v h⟩
        · obtain ⟨j, ds, k1, k2⟩ := q4 p hp
          exact ⟨j + 1, ds, by simpa using k1, by simpa using k2⟩
  | .tmp e :: r, .ref p0 :: vs, some (.lst ds0) :: os, _ :: T, a', st, st2, .tmp hp0 hd hr, h, hn => by
    cases a' with
    | nil => cases h
    | cons s a' =>
      cases s with
      | un => cases h
      | pu _ => cases h
      | ow ds1 =>
        obtain ⟨q1, q2, q3, q4⟩ := upd_of hr (show updIo r a' st = some st2 from h) hn
        refine ⟨q1, q2, fun i hi hl => ?_, fun p hp => ?_⟩
        · obtain ⟨j, ds, k1, k2, k3⟩ := q3 i hi hl
          exact ⟨j + 1, ds, by simpa using k1, k2, fun v h => by simpa using k3 v h⟩
        · rcases List.mem_cons.mp hp with e | e
          · subst e; exact ⟨0, ds1, rfl, rfl⟩
          · obtain ⟨j, ds, k1, k2⟩ := q4 p e
            exact ⟨j + 1, ds, by simpa using k1, by simpa using k2⟩
end
/-- two owning slots with one list are one -/
theorem own_one {K : PySem.W.Frag} {Xs : List Addr} {st : List Sl} {σ : L2.St} {H : Hp} (r : Rel K Xs st σ H) {i j : Nat} {ds es : List D} {p : Addr} (h1 : st[i]? = some (.ow ds)) (h2 : st[j]? = some (.ow es)) (h3 : σ[i]? = some (some (.ref p))) (h4 : σ[j]? = some (some (.ref p))) : i = j := by
  by_cases e : i = j
  · exact e
  · have nd : (ownd st σ).Nodup := (List.nodup_append.mp r.nd).1
    have pm := ownd_free (d := .non) h1 h3
    have nd2 : (p :: ownd (st.set i (.pu .non)) σ).Nodup := pm.nodup_iff.mp nd
    exact absurd (ownd_mem (i := j) (ds := es) (by rw [List.getElem?_set_ne e]; exact h2) h4) (List.nodup_cons.mp nd2).1
section
variable {K : PySem.W.Frag} {w : Wi} {φ : EvE}
theorem callA_of {ags : List Ag} {σ : L2.St} {H : Hp} {Q : VK} (h : tE K w (eCallA ags φ) σ H Q) : agT K w ags σ H fun vs H1 => spF K w.cl φ vs H1 Q (fun c dx H' => w.W c dx σ H') := by
  obtain ⟨Xs, st, rel, h⟩ := h
  refine ag_run ags rel h (fun _ _ _ g => g) fun vs H1 os T st1 p1 r1 a1 t1 g => ?_
  split at g
  · next hio =>
    split at g
    · exact g.elim
    · next a ea =>
      obtain ⟨m1, m2, m3, m4, m5⟩ := mk_of a1 ea (fun i ds hi => r1.ow i ds hi)
      have nd1 := r1.nd
      have ndT : T.Nodup := ((List.nodup_append.mp (List.nodup_append.mp nd1).2.1)).1
      have disj : ∀ p ∈ ownd st1 σ, p ∉ T := fun p hp hT => (List.nodup_append.mp nd1).2.2 p hp p (List.mem_append_left _ hT) rfl
      have ndA := mk_nd a1 ea (fun i ds hi => r1.ow i ds hi) hio ndT (fun i p hi e hT => by
        obtain ⟨ds, hd⟩ := m5 i hi
        exact disj p (ownd_mem hd e) hT) (fun i j p hi hj e1 e2 => by
        obtain ⟨ds, hd⟩ := m5 i hi
        obtain ⟨es, he⟩ := m5 j hj
        exact own_one r1 hd he e1 e2)
      -- what else is hidden
      have subA : ∀ p ∈ ownd a (vs.map some), p ∈ hid (T ++ Xs) st1 σ := fun p hp => by
        rcases (m4 p).mp hp with ⟨i, hi, e⟩ | hT
        · obtain ⟨ds, hd⟩ := m5 i hi
          exact List.mem_append_left _ (ownd_mem hd e)
        · exact List.mem_append_right _ (List.mem_append_left _ hT)
      generalize hZ : (hid (T ++ Xs) st1 σ).filter (fun p => decide (p ∉ ownd a (vs.map some))) = Z
      have memZ : ∀ p, p ∈ Z ↔ p ∈ hid (T ++ Xs) st1 σ ∧ p ∉ ownd a (vs.map some) := fun p => by rw [← hZ, List.mem_filter]; simp
      have ndZ : (hid Z a (vs.map some)).Nodup := List.nodup_append.mpr ⟨ndA, by rw [← hZ]; exact nd1.sublist List.filter_sublist, fun p hp q hq e => by
        subst e
        exact ((memZ p).mp hq).2 hp⟩
      have same : ∀ p, p ∈ hid Z a (vs.map some) ↔ p ∈ hid (T ++ Xs) st1 σ := fun p => by
        show p ∈ ownd a (vs.map some) ++ Z ↔ _
        rw [List.mem_append, memZ]
        constructor
        · rintro (h | h)
          · exact subA p h
          · exact h.1
        · intro h
          by_cases hp : p ∈ ownd a (vs.map some)
          · exact .inl hp
          · exact .inr ⟨h, hp⟩
      have ev : vis Z a (vs.map some) H1 = vis (T ++ Xs) st1 σ H1 := msk_congr same
      have ra : Rel K Z a (vs.map some) H1 := by
        refine ⟨by rw [m1, List.length_map], ndZ, fun i d hi => ?_, fun i ds hi => ?_, (rel_dom r1).to (fun z hz => (rel_dom r1).ne z ((memZ z).mp hz).1) fun z hz => ?_⟩
        · obtain ⟨v, q1, q2⟩ := m2 i d hi
          exact ⟨v, by rw [List.getElem?_map, q1]; rfl, by rw [ev]; exact q2⟩
        · obtain ⟨p, us, q1, q2, q3⟩ := m3 i ds hi
          exact ⟨p, us, by rw [List.getElem?_map, q1]; rfl, q2, by rw [ev]; exact q3⟩
        · by_cases hp : z ∈ ownd a (vs.map some)
          · obtain ⟨i, ds, h1, h2⟩ := ownd_of hp
            obtain ⟨p, us, q1, q2, _⟩ := m3 i ds h1
            rw [List.getElem?_map, q1] at h2
            cases h2
            exact .inr ⟨us, q2⟩
          · exact .inl ((memZ z).mpr ⟨hz, hp⟩)
      -- back
      have back : ∀ {a' st2 : List Sl} {H' : Hp} {L : List Addr}, updIo ags a' st1 = some st2 → Post K Z a (vs.map some) H1 a' H' → Rel K (L ++ Z) a' (vs.map some) H' → (∀ x ∈ L, H1 x = none) →
          Rel K (L ++ Xs) st2 σ H' ∧ Ex (vis (L ++ Z) a' (vs.map some) H') (vis (L ++ Xs) st2 σ H') ∧ Ex (vis Xs st σ H) (vis (L ++ Xs) st2 σ H') ∧ (∀ x ∈ Xs, Kp (H1 x) (H' x)) ∧ OwLess st1 st2 := fun {a' st2 H' L} hu pa ra' hL => by
        obtain ⟨u1, u2, u3, u4⟩ := upd_of a1 hu hio
        have ol : OwLess st1 st2 := fun i ds hi => by
          by_cases hm : i ∈ iosOf ags
          · exact m5 i hm
          · rw [u2 i hm] at hi; exact ⟨ds, hi⟩
        have like : ∀ (i : Nat), (∃ ds, st1[i]? = some (.ow ds)) ↔ ∃ ds, st2[i]? = some (.ow ds) := fun i => ⟨fun ⟨ds, hi⟩ => by
          by_cases hm : i ∈ iosOf ags
          · obtain ⟨j, es, _, k2, _⟩ := u3 i hm (List.getElem?_eq_some_iff.mp hi).1
            exact ⟨es, k2⟩
          · exact ⟨ds, by rw [u2 i hm]; exact hi⟩, fun ⟨ds, hi⟩ => ol i ds hi⟩
        have eo : ownd st2 σ = ownd st1 σ := ownd_like like u1
        -- the arguments' lists are the same ones behind the call
        have eoa : ∀ p, p ∈ ownd a' (vs.map some) ↔ p ∈ ownd a (vs.map some) := fun p => ⟨fun hp => by
          obtain ⟨i, ds, h1, h2⟩ := ownd_of hp
          obtain ⟨es, h3⟩ := pa.ol i ds h1
          exact ownd_mem h3 h2, fun hp => by
          rcases (m4 p).mp hp with ⟨i, hi, e⟩ | hT
          · obtain ⟨ds, hd⟩ := m5 i hi
            obtain ⟨j, es, k1, _, k3⟩ := u3 i hi (List.getElem?_eq_some_iff.mp hd).1
            exact ownd_mem k1 (by rw [List.getElem?_map, k3 _ e]; rfl)
          · obtain ⟨j, es, k1, k2⟩ := u4 p hT
            exact ownd_mem k1 (by rw [List.getElem?_map, k2]; rfl)⟩
        have same2 : ∀ p, p ∈ hid (L ++ Z) a' (vs.map some) ↔ p ∈ hid (L ++ (T ++ Xs)) st2 σ := fun p => by
          show p ∈ ownd a' (vs.map some) ++ (L ++ Z) ↔ p ∈ ownd st2 σ ++ (L ++ (T ++ Xs))
          rw [eo]
          have q := same p
          have q' : (p ∈ ownd a (vs.map some) ∨ p ∈ Z) ↔ (p ∈ ownd st1 σ ∨ (p ∈ T ∨ p ∈ Xs)) := by simpa only [hid, List.mem_append] using q
          simp only [List.mem_append]
          rw [eoa p]
          constructor
          · rintro (h | h | h)
            · rcases q'.mp (.inl h) with h | h
              · exact .inl h
              · exact .inr (.inr h)
            · exact .inr (.inl h)
            · rcases q'.mp (.inr h) with h | h
              · exact .inl h
              · exact .inr (.inr h)
          · rintro (h | h | h)
            · rcases q'.mpr (.inl h) with h | h
              · exact .inl h
              · exact .inr (.inr h)
            · exact .inr (.inl h)
            · rcases q'.mpr (.inr h) with h | h
              · exact .inl h
              · exact .inr (.inr h)
        have ev2 : vis (L ++ Z) a' (vs.map some) H' = vis (L ++ (T ++ Xs)) st2 σ H' := msk_congr same2
        have exM : Ex (vis (T ++ Xs) st1 σ H1) (vis (L ++ (T ++ Xs)) st2 σ H') := by
          rw [← ev2, ← ev]
          exact ex_hide pa.ex hL
        have R2 : Rel K (L ++ (T ++ Xs)) st2 σ H' := by
          refine ⟨by rw [u1]; exact r1.len, ?_, fun i d hi => ?_, fun i ds hi => ?_, fun x hx => ?_, fun P hP => ⟨List.mem_append_right _ (List.mem_append_right _ (p1.rel.xs.tb P hP).1), (ra'.xs.tb P hP).2⟩⟩
          · show (ownd st2 σ ++ (L ++ (T ++ Xs))).Nodup
            rw [eo]
            have nL : (L ++ Z).Nodup := (List.nodup_append.mp ra'.nd).2.1
            have pm : (ownd st1 σ ++ (L ++ (T ++ Xs))).Perm (L ++ (ownd st1 σ ++ (T ++ Xs))) := List.perm_append_comm_assoc _ _ _
            refine pm.nodup_iff.mpr (List.nodup_append.mpr ⟨(List.nodup_append.mp nL).1, nd1, fun x hx y hy e => ?_⟩)
            subst e
            exact (rel_dom r1).ne x hy (hL x hx)
          · have hi' : st1[i]? = some (.pu d) := by
              by_cases hm : i ∈ iosOf ags
              · obtain ⟨ds, hd⟩ := m5 i hm
                obtain ⟨j, es, _, k2, _⟩ := u3 i hm (List.getElem?_eq_some_iff.mp hd).1
                rw [k2] at hi; cases hi
              · rw [u2 i hm] at hi; exact hi
            obtain ⟨v, q1, q2⟩ := r1.pu i d hi'
            exact ⟨v, q1, dp_mono exM q2⟩
          · by_cases hm : i ∈ iosOf ags
            · obtain ⟨es, he⟩ := m5 i hm
              obtain ⟨p, us, q1, _, _⟩ := r1.ow i es he
              obtain ⟨j, fs, k1, k2, k3⟩ := u3 i hm (List.getElem?_eq_some_iff.mp he).1
              rw [k2] at hi
              cases hi
              obtain ⟨p', us', z1, z2, z3⟩ := ra'.ow j ds k1
              have ep : p' = p := by
                have := k3 _ q1
                rw [List.getElem?_map, this] at z1
                cases z1
                rfl
              subst ep
              exact ⟨p', us', q1, z2, by rw [← ev2]; exact z3⟩
            · rw [u2 i hm] at hi
              obtain ⟨p, us, q1, q2, q3⟩ := r1.ow i ds hi
              have hpZ : p ∈ Z := (memZ p).mpr ⟨List.mem_append_left _ (ownd_mem hi q1), fun hp => by
                rcases (m4 p).mp hp with ⟨j, hj, e⟩ | hT
                · obtain ⟨es, he⟩ := m5 j hj
                  have := own_one r1 hi he q1 e
                  subst this
                  exact hm hj
                · exact disj p (ownd_mem hi q1) hT⟩
              exact ⟨p, us, q1, ((pa.xs p hpZ).lst q2).trans q2, dpAll_mono exM q3⟩
          · rcases List.mem_append.mp hx with h | h
            · exact ra'.xs.ne x (List.mem_append_left _ h)
            · rcases List.mem_append.mp h with h | h
              · obtain ⟨j, ds, k1, k2⟩ := u4 x h
                obtain ⟨p', us', z1, z2, _⟩ := ra'.ow j ds k1
                rw [List.getElem?_map, k2] at z1
                cases z1
                rw [z2]; simp
              · have hxZ : x ∈ Z := (memZ x).mpr ⟨List.mem_append_right _ (List.mem_append_right _ h), fun hp => by
                  rcases (m4 x).mp hp with ⟨j, hj, e⟩ | hT
                  · obtain ⟨es, he⟩ := m5 j hj
                    exact (List.nodup_append.mp nd1).2.2 x (ownd_mem he e) x (List.mem_append_right _ h) rfl
                  · exact (List.nodup_append.mp (List.nodup_append.mp nd1).2.1).2.2 x hT x h rfl⟩
                exact (pa.xs x hxZ).ne (r1.xs.ne x (List.mem_append_right _ h))
        have pmL : (L ++ (T ++ Xs)).Perm (T ++ (L ++ Xs)) := List.perm_append_comm_assoc _ _ _
        obtain ⟨R3, e3⟩ := rel_show (L := T) (fun P hP => List.mem_append_right _ (p1.rel.xs.tb P hP).1) (rel_perm pmL R2)
        have ev3 := vis_perm (st := st2) (σ := σ) (H := H') pmL
        refine ⟨R3, by rw [ev2, ev3]; exact e3, ?_, fun x hx => ?_, ol⟩
        · have e0 : Ex (vis Xs st σ H) (vis (T ++ Xs) st1 σ H1) := ex_hide p1.ex t1
          refine (e0.trans exM).trans ?_
          rw [ev3]
          exact e3
        · have hxZ : x ∈ Z := (memZ x).mpr ⟨List.mem_append_right _ (List.mem_append_right _ hx), fun hp => by
            rcases (m4 x).mp hp with ⟨j, hj, e⟩ | hT
            · obtain ⟨es, he⟩ := m5 j hj
              exact (List.nodup_append.mp nd1).2.2 x (ownd_mem he e) x (List.mem_append_right _ hx) rfl
            · exact (List.nodup_append.mp (List.nodup_append.mp nd1).2.1).2.2 x hT x hx rfl⟩
          exact pa.xs x hxZ
      refine ⟨Z, a, ra, ?_⟩
      cases e : φ a with
      | no => rw [e] at g; exact g.elim
      | ok z a' =>
        rw [e] at g
        intro v H' pa qa
        dsimp only at g
        split at g
        · next st2 hu =>
          obtain ⟨b1, b2, b3, b4, b5⟩ := back (L := []) hu pa pa.rel (fun _ h => by cases h)
          have P : Post K Xs st σ H st2 H' := ⟨b1, b3, fun x hx => (p1.xs x hx).trans (b4 x hx), fun y hy => p1.dom y (pa.dom y hy), p1.ol.trans b5⟩
          refine g v H' P ⟨dp_mono b2 qa.dp, fun hz => ?_⟩
          obtain ⟨p, us, ds, h1, h2, h3, h4, h5, h6⟩ := qa.fr hz
          obtain ⟨c1, c2, _, _, _⟩ := back (L := [p]) hu pa h6 (fun x hx => by rw [List.mem_singleton.mp hx]; exact h3)
          exact ⟨p, us, ds, h1, h2, p1.dom p h3, h4, dpAll_mono c2 h5, c1⟩
        · exact g.elim
      | ex c d a' =>
        rw [e] at g
        intro dx v H' pa h1 h2
        dsimp only at g
        split at g
        · next st2 hu =>
          obtain ⟨b1, b2, b3, b4, b5⟩ := back (L := []) hu pa pa.rel (fun _ h => by cases h)
          exact g dx v H' ⟨b1, b3, fun x hx => (p1.xs x hx).trans (b4 x hx), fun y hy => p1.dom y (pa.dom y hy), p1.ol.trans b5⟩ (b2 _ _ h1) (dp_mono b2 h2)
        · exact g.elim
  · exact g.elim
variable {X : Cx} {w : Wi} {x : Str} {p pos : Pos} {e : Expr} {es : List Expr} {ags : List Ag} {k : Nat} {f : Addr} {fd : FuncData} {ps : List Str} {φ : EvE}
theorem xg_v {ev : EvE} (ha : PE X e (tE X.K w ev)) (hr : PA X es (agT X.K w ags)) (hs : starEach (e :: es) X.env = (false, eval e X.env) :: starEach es X.env := by rfl) : PA X (e :: es) (agT X.K w (.v ev :: ags)) := pa_cons ha hr hs
theorem xg_tmp {ev : EvE} (ha : PE X e (tE X.K w ev)) (hr : PA X es (agT X.K w ags)) (hs : starEach (e :: es) X.env = (false, eval e X.env) :: starEach es X.env := by rfl) : PA X (e :: es) (agT X.K w (.tmp ev :: ags)) := pa_cons ha hr hs
theorem xg_io (i : Nat) {n : Str} {np : Pos} (hr : PA X es (agT X.K w ags)) (hN : X.N[i]? = some n := by rfl) (hv : Vis X.env.scope n := by first | exact Or.inl rfl | exact Or.inr (Or.inl rfl) | exact Or.inr (Or.inr rfl)) (hd : (n == ("__debug__" : Str)) = false := by decide)
    (hcd : (n == ("__classdict__" : Str)) = false := by decide) : PA X (.Name n np :: es) (agT X.K w (.io i :: ags)) := pa_cons (pe_var hN hv hd hcd) hr
theorem xg_end : PA X [] (agT X.K w []) := pa_nil
theorem x_callA (F : FnOk X.prog X.w X.K X.mg X.base (L2.CX X.prog X.w) k f fd ps (spF X.K w.cl φ)) (hr : Room k X.A) (hm : X.mg x = some (.ref f)) (hk : PySem.W.keepIn X.K (.ref f) = true) (hb : Binds X.K fd ps []) (tk : Takes X w.W) (ha : PA X (e :: es) (agT X.K w ags))
    (hg : Gl X x := by rfl) (hdb : (x == ("__debug__" : Str)) = false := by decide) (he : starEach (e :: es) X.env = (false, eval e X.env) :: starEach es X.env := by rfl) (hpl : (backTo pos (starEach es X.env)).any (·.1) = false := by rfl) :
    PE X (.Call (.Name x p) (e :: es) [] pos) (tE X.K w (eCallA ags φ)) :=
  PE.of (pe_callS (E := WE w.W) F hr hg hm hk hb (fun σ => passAt tk σ) ha hdb he hpl) fun σ H Q h => callA_of h
end
end TX

end

section
set_option Elab.async false
set_option linter.all false
set_option maxRecDepth 100000
set_option maxHeartbeats 2000000
namespace PySem
namespace TellX
open PySem.W PySem.Calls PyProof.Rows PySem.HandSPX
/-! ### the text of __init__ -/
def iA (p1 p2 : Pos) : Arguments := { posonlyargs := [], args := [{ arg := "self", annotation := none, pos := p1 }, { arg := "value", annotation := none, pos := p2 }], vararg := none, kwonlyargs := [], kw_defaults := [], kwarg := none, defaults := [] }
def iB (q1 q2 q3 q4 : Pos) : List Stmt := [.Assign [.Attribute (.Name "self" q1) "value" q2] (.Name "value" q3) q4]
def iS : Scope := { kind := .function, names := [(PySem.Str.ofString "self", .local), (PySem.Str.ofString "value", .local)], isGenerator := false, isCoroutine := false, more := [] }
/-- what the written part says of Low, at C, and of its __init__, at fI -/
structure TellTxt (K : Frag) (C fI : Addr) : Prop where
  cls : ∃ nm q N bs bm sn sub ab col dd k0 k1 k2 k3 k5, K.lookup C = some (excClassObj nm q C N bs bm true sn sub ab col dd k0 k1 k2 k3 k5 "ValueError.__new__") ∧ refsVE bm = true
  sa : findIn K (.ref C) "__setattr__" = some (some (.builtin "object.__setattr__"))
  ga : findIn K (.ref C) "__getattribute__" = some (some (.builtin "BaseException.__getattribute__"))
  gg : findIn K (.ref C) "__getattr__" = some none
  noN : findIn K (.ref C) "value" = some none
  iC : findIn K (.ref C) "__init__" = some (some (.ref fI))
  tC : typeIn K (.ref fI) = some (.type "function")
  kC : keepIn K (.ref C) = true
  exC : subIn K (.ref C) (.type "BaseException") = some true
  tyC : typeIn K (.ref C) = some (.type "type")
  hdC : hasDictIn K C = true
  te : exmOne K (.ref C) (.ref C) = some true
  fn : ∃ (oc : Value) (od : Option Addr) (kV doc pm : Value) (an : Option Addr) (cdv ct : Value) (osl : Array (Option Value)) (p1 p2 q1 q2 q3 q4 : Pos),
    K.lookup fI = some ⟨oc, od, .func (fnOf "__init__" "TellError.__init__" (iA p1 p2) (iB q1 q2 q3 q4) iS .none kV doc pm an cdv ct), osl⟩ ∧ codeIn K cdv "TellError.__init__" = true
theorem one_size (v : Value) : [v].length ≤ sizeLine := by
  rw [sizeLine_eq]
  exact (by decide : 1 ≤ 16777216)
theorem kept_but {K : Frag} {h h' : Heap} {x : Addr} (X : K.In h) (hx : K.lookup x = none) (k : ∀ b o, b ≠ x → h.get? b = some o → h'.get? b = some o) : K.In h' := fun a o e =>
  k a o (fun z => by rw [z, hx] at e; cases e) (X a o e)
theorem ldC {M : Model} {s : Shared} {name : Str} {scope : Scope} {L a : Addr} {cd : Value} {m : Str → Option Value} {x : Str} {pos : Pos} {v : Value} {Q : Value → Shared → Prop} {A : Around} {E : Value → Shared → Prop} (hn : s.heap.Ns L m) (hv : m x = some v) (h : Q v s)
    (hk : scope.kind = .function := by rfl) (hl : (envOfC name scope L a cd).kindOf x = some .local := by rfl) (hd : (x == ("__debug__" : Str)) = false := by decide) :
    wpAny M A (eval (.Name x pos) (envOfC name scope L a cd)) Q E s := wpAny_Name (wpAny_loadName_local hk hl hn hv h) hd
/-- what __init__ leaves of a fresh exception at x -/
structure InitEnd (h h' : Heap) (x C dx t1 : Addr) (v : Value) : Prop where
  keep : ∀ b o, b ≠ x → h.get? b = some o → h'.get? b = some o
  obj : h'.get? x = some { cls := .ref C, dict := some dx, data := .fields #[.ref t1, .none, .none, .none, .bool false, .none] }
  dbig : h.objs.size ≤ dx
  dne : dx ≠ x
  ns : h'.Ns1 dx (fun y => if y = "value" then some v else none)
/-- a made Low -/
structure OwnMade (h h' : Heap) (e C d : Addr) (v : Value) : Prop where
  keep : ∀ b o, h.get? b = some o → h'.get? b = some o
  new : h.objs.size ≤ e
  obj : ∃ oe vs, h'.get? e = some oe ∧ oe.cls = .ref C ∧ oe.dict = some d ∧ oe.data = .fields vs ∧ vs[1]? = some .none
  dbig : h.objs.size ≤ d
  dne : d ≠ e
  ns : h'.Ns1 d (fun y => if y = "value" then some v else none)
section
variable {prog : Program} {w : World} {A : Around} {E : Value → Shared → Prop} {R : Result → Shared → Prop} {s : Shared} {K : Frag} {mg : Str → Option Value} {C fI : Addr}
theorem tell_init (T : TellTxt K C fI) {x t0 : Addr} {v : Value} (X : K.In s.heap) (hlim : s.heap.NoLimit) (hx : s.heap.get? x = some (excO C t0)) (hnx : K.lookup x = none) (hroom : A.depth < recursionLimit)
    (hq : ∀ h' tk dx, InitEnd s.heap h' x C dx t0 v → R (.ok (.ret .none)) { s with heap := h', toks := tk }) :
    codeAny (model prog w) A (.call (.ref fI) ⟨[.ref x, v], []⟩) R s := by
  obtain ⟨oc, od, kV, doc, pm, an, cdv, ct, osl, p1, p2, q1, q2, q3, q4, ho, hcd⟩ := T.fn
  obtain ⟨nm, q, N, bs, bm, sn, sub, ab, col, dd, k0, k1, k2, k3, k5, hC, hbm⟩ := T.cls
  have hcl : clsIn K C = some { name := nm, bases := bs, mro := .ref C :: bm, ns := N, qualname := q, hasDict := true, slotNames := sn, subclasses := sub, abstract := ab, collection := col, hasDel := false } := by unfold clsIn; rw [hC] <;> rfl
  refine Att.call_fn (binds := [("self", .ref x), ("value", v)]) X hlim ho hcd hroom (BindsTo.of_eq (by first | rfl | with_unfolding_all rfl)) (by first | rfl | decide | with_unfolding_all rfl) (fun s₁ IC => ?_) rfl rfl rfl
  obtain ⟨h₁, tk₁, rfl⟩ := IC.toInCall.same
  have k : ∀ b o, s.heap.get? b = some o → h₁.get? b = some o := IC.toInCall.keep
  have hn := IC.toInCall.ns
  have hxL : s.heap.objs.size ≠ x := Nat.ne_of_gt (Heap.lt_size hx)
  have X₁ : K.In h₁ := X.keeps k
  have hx₁ := k _ _ hx
  -- self.by = by
  show wpAny _ _ (execs _ _) _ _ _
  refine wpAny_execs_cons (plainObj_wpAny_Assign_Attribute ?_)
  refine ldC (v := v) hn (by first | rfl | with_unfolding_all rfl | kernel_rfl) (ldC (v := .ref x) hn (by first | rfl | with_unfolding_all rfl | kernel_rfl) ?_)
  refine set_plain X₁ (ox := excO C t0) (od := none) ⟨hx₁, rfl, rfl, trivial⟩ T.sa ?_
  refine exc_osa X₁ hx₁ hcl (show refsVE (.ref C :: bm) = true from hbm) rfl T.noN (fun h₃ tk₃ dx k₃ dn dne hx₃ hn₃ => ?_)
  show wpAny _ _ (execs _ _) _ _ _
  have z : s.heap.objs.size < h₁.objs.size := hn.lt
  exact wpAny_execs_nil (hq h₃ tk₃ dx ⟨fun b o hb e => k₃ b o hb (k b o e), hx₃, Nat.le_of_lt (Nat.lt_of_lt_of_le z dn), dne, hn₃⟩)
theorem tell_made (T : TellTxt K C fI) {v : Value} (X : K.In s.heap) (hlim : s.heap.NoLimit) (hroom : A.depth + 1 < recursionLimit)
    (hq : ∀ h' tk e d, OwnMade s.heap h' e C d v → R (.ok (.ret (.ref e))) { s with heap := h', toks := tk }) :
    codeAny (model prog w) A (.call (.ref C) ⟨[v], []⟩) R s := by
  obtain ⟨nm, q, N, bs, bm, sn, sub, ab, col, dd, k0, k1, k2, k3, k5, hC, hbm⟩ := T.cls
  obtain ⟨hp, g, dr, tk, os⟩ := s
  have k : ∀ b o, hp.get? b = some o → ((hp.push (kdv_tup [v])).push (excO C hp.objs.size)).get? b = some o := fun b o e => Heap.get?_push_of_some _ (Heap.get?_push_of_some _ e)
  have hget : ((hp.push (kdv_tup [v])).push (excO C hp.objs.size)).get? (hp.objs.size + 1) = some (excO C hp.objs.size) := by heap_get
  have hnx : K.lookup (hp.objs.size + 1) = none := by
    cases e : K.lookup (hp.objs.size + 1) with
    | none => rfl
    | some o =>
      have z : hp.get? (hp.objs.size + 1) = some o := X _ _ e
      exact absurd (Nat.lt_of_succ_lt (Heap.lt_size z)) (Nat.lt_irrefl _)
  refine call_own F.excBase_ValueError (fun X => refsVE_contains X bm hbm) (X _ _ hC) (looks_findIn X T.iC) (fun self => bind_fn X self T.tC) (one_size v) ?_
  refine tell_init (s := ⟨(hp.push (kdv_tup [v])).push (excO C hp.objs.size), g, dr, tk, os⟩) T (X.keeps k) (hlim.keeps k) hget hnx ?_ fun h' tk' dx ⟨k', hx, dn, dne, hns⟩ => ?_
  · show A.depth + 1 < recursionLimit
    exact hroom
  · have old : ∀ b o, hp.get? b = some o → h'.get? b = some o := fun b o e => k' b o (Nat.ne_of_lt (Nat.lt_succ_of_lt (Heap.lt_size e))) (k b o e)
    have z : hp.objs.size + 1 + 1 ≤ dx := by
      first
        | (simpa only [Heap.size_push] using dn)
        | exact dn
        | (have q := dn; rw [Heap.size_push, Heap.size_push] at q; exact q)
    exact ⟨rfl, hq h' tk' (hp.objs.size + 1) dx ⟨old, Nat.le_succ _, ⟨_, _, hx, rfl, rfl, rfl, rfl⟩, Nat.le_trans (Nat.le_trans (Nat.le_succ _) (Nat.le_succ _)) z, dne, hns⟩⟩
end
end TellX
end PySem
namespace L2
open PySem PySem.Spec PyProof.Rows
theorem relO_tell {v : V} {v' : Value} (r : RelV v v') (f : Str) : RelO (List.lookup f [(("value" : Str), v)]) (if f = "value" then some v' else none) := by
  by_cases hw : f = "value"
  · subst hw
    rw [if_pos rfl]
    have q : List.lookup ("value" : Str) [(("value" : Str), v)] = some v := by simp [List.lookup]
    rw [q]
    exact r
  · rw [if_neg hw]
    have qw : (f == ("value" : Str)) = false := by simpa using hw
    have q2 : List.lookup f [(("value" : Str), v)] = none := by simp [List.lookup, qw]
    rw [q2]
    trivial
section
variable {X : Cx} {C fI : Addr}
/-- Low(e) -/
def tMkTell (C : Addr) (ta : TA) : St → Hp → XK → Prop := fun σ H Q => ta σ H fun vs H1 => ∃ v, vs = [v] ∧ ∀ d, H1 d = none → Q (.ref C) (some d) (upd H1 d (.xd [(("value" : Str), v)]))
theorem pmk_tell {a : Expr} {ta : TA} {nm : Str} {p pos : Pos} {k : Nat} (T : PySem.TellX.TellTxt X.K C fI) (hr : Room k X.A) (ha : PA X [a] ta) (gC : X.mg nm = some (.ref C)) (hg : Gl X nm := by rfl) (hdb : (nm == ("__debug__" : Str)) = false := by decide)
    (he : starEach (a :: []) X.env = (false, eval a X.env) :: starEach [] X.env := by rfl) (hpl : (backTo pos (starEach [] X.env)).any (·.1) = false := by rfl) :
    PMk X (.Call (.Name nm p) [a] [] pos) (tMkTell C ta) := by
  intro pins s σ H Q I h
  refine wpAny_Call_Name_kw (ld_glob I hg gC ?_ hdb)
  refine PySem.W.callWith_K (h₀ := X.base) I.ok.mod.kin T.kC (thn (ha.run pos pins s σ H _ I h) fun us s1 hh => ?_) he hpl
  obtain ⟨vs, H1, I1, r1, v, ev, q1⟩ := hh
  subst ev
  refine ⟨I1.kIn, ?_⟩
  cases r1 with
  | cons rv rn =>
    rename_i v' us'
    cases rn
    show wpAny _ _ (call (.ref C) [v']) _ _ _
    have hlim := I1.nolimit
    obtain ⟨hp, g, dr, tk, os⟩ := s1
    refine wpAny_call (PySem.TellX.tell_made T I1.kIn hlim (by have := hr.dp; omega) fun h' tk' e d M => ?_)
    show MkP X pins σ Q (.ref e) ⟨h', g, dr, tk', os⟩
    obtain ⟨oe, fv, hoe, hc, hd, hdat, h1⟩ := M.obj
    have hns := M.ns
    obtain ⟨G', g1, g2⟩ := restrict h' fun b => decide (b ≠ e)
    have gk : ∀ b, b ≠ e → G'.get? b = h'.get? b := fun b hb => g1 b (decide_eq_true hb)
    have ge : G'.get? e = none := g2 e (by simp)
    have old : ∀ b o, hp.get? b = some o → G'.get? b = some o := fun b o q => (gk b (Nat.ne_of_lt (Nat.lt_of_lt_of_le (Heap.lt_size q) M.new))).trans (M.keep b o q)
    have ob : ObjOk X.prog X.w (upd H1 d (.xd [(("value" : Str), v)])) G' d (.xd [(("value" : Str), v)]) :=
      ⟨_, hns.at (fun o q => (gk d M.dne).trans q), fun f => relO_tell rv f⟩
    have J : Inv X pins σ (upd H1 d (.xd [(("value" : Str), v)])) ⟨G', g, dr, tk', os⟩ := I1.laid (t' := tk') old M.dbig ob
    refine ⟨e, oe, fv, ⟨G', g, dr, tk', os⟩, _, .ref C, some d, rfl, J, fun b o q => ?_, ge, hoe, ⟨hc, hd⟩, hdat, h1, ?_, rfl, I1.bare, raises_own T.exC T.tyC, q1 d (I1.hok.fresh M.dbig)⟩
    · by_cases hb : b = e
      · have q' : G'.get? b = some o := q
        rw [hb, ge] at q'; cases q'
      · exact (gk b hb).symm.trans q
    · rw [upd_ne (Ne.symm M.dne)]
      exact I1.hok.fresh M.new
/-- raise Low(e) -/
def tRaiseTell (C : Addr) (W : WX) (ta : TA) : TS := fun _ σ H => tMkTell C ta σ H fun cls d H' => W cls d σ H'
theorem ps_raiseTell {a : Expr} {ta : TA} {W : WX} {nm : Str} {p pos pos2 : Pos} {k : Nat} (hc : X.calm = true) (T : PySem.TellX.TellTxt X.K C fI) (hr : Room k X.A) (tk : Takes X W) (ha : PA X [a] ta) (gC : X.mg nm = some (.ref C)) (hg : Gl X nm := by rfl) (hdb : (nm == ("__debug__" : Str)) = false := by decide)
    (he : starEach (a :: []) X.env = (false, eval a X.env) :: starEach [] X.env := by rfl) (hpl : (backTo pos (starEach [] X.env)).any (·.1) = false := by rfl) :
    PS X (.Raise (some (.Call (.Name nm p) [a] [] pos)) none pos2) (tRaiseTell C W ta) := ps_raise hc tk (pmk_tell T hr ha gC hg hdb he hpl)
/-- low.by, low the exception that the suite holds (at a; its class cls, its dict d) -/
def tValTell (C : Addr) (a : Addr) (cls : Value) (d : Option Addr) (te : TE) : TE := fun σ H Q => te σ H fun x H1 => x = .ref a ∧ cls = .ref C ∧ ∃ (dd : Addr) (v : V), d = some dd ∧ H1 dd = some (.xd [(("value" : Str), v)]) ∧ Q v H1
theorem pe_valTell {a : Addr} {oe : Obj} {cls : Value} {d : Option Addr} {pn : List (Addr × Obj)} {e : Expr} {te : TE} {pos : Pos} (T : PySem.TellX.TellTxt X.K C fI) (hz : Zc cls d oe) (hf : ∃ vs, oe.data = .fields vs) (he : PE (X.suite a ((a, oe) :: pn)) e te)
    (hb : attributeBase e "value" X.env (eval e X.env) = eval e X.env := by rfl) :
    PE (X.suite a ((a, oe) :: pn)) (.Attribute e "value" pos) (tValTell C a cls d te) := by
  refine ⟨fun pins s σ H Q I h => ?_⟩
  refine attr_of hb (thn (he.run pins s σ H _ I h) fun u s1 hh => ?_)
  obtain ⟨x, H1, I1, rx, ex, ec, dd, v, ed, ea, q⟩ := hh
  subst ex
  obtain rfl : u = Value.ref a := rx
  subst ec
  subst ed
  obtain ⟨ha, _⟩ := I1.pin (a, oe) (List.mem_append_left _ List.mem_cons_self)
  obtain ⟨vs, hd⟩ := hf
  have hx : ObjOk X.prog X.w H1 s1.heap dd (.xd [(("value" : Str), v)]) := I1.hok dd _ ea
  obtain ⟨mA, hns, hr⟩ := hx
  obtain ⟨od, ho, hl⟩ := lookIn_ns hns
  have l : List.lookup ("value" : Str) [(("value" : Str), v)] = some v := by simp [List.lookup]
  obtain ⟨u, hu, ru⟩ := RelO.some_of (v := v) (o := mA "value") (by rw [← l]; exact hr "value")
  have J : PySem.W.InstAt s1.heap a oe C (some od) := ⟨ha, hz.1, by unfold PySem.W.notCls; rw [hd] <;> rfl, by rw [hz.2]; exact ho⟩
  exact HandSPX.exc_get I1.kIn J T.ga T.gg T.exC (PySem.W.findObj_own T.hdC T.noN rfl (by rw [hl, hu])) (handed_of ru) ⟨v, H1, I1.tok _, ru, q⟩
end
end L2

namespace TX
open PySem L2 Evl PyProof.Rows
/-! ### raise -/
def sRaise (c : Nat) (e : EvE) : EvS := fun st => (e st).toS fun z st1 => .ex c z.1 st1
section
variable {X : Cx} {w : Wi} {P : List Nat} {pos pos2 p : Pos} {nm : Str} {k : Nat} {fI : Addr}
theorem xs_raise (c : Nat) {e : Expr} {ev : EvE} (T : PySem.TellX.TellTxt X.K (w.cl c) fI) (gC : X.mg nm = some (.ref (w.cl c))) (hr : Room k X.A) (hc : X.calm = true) (tk : Takes X w.W) (he : PE X e (tE X.K w ev)) (hg : Gl X nm := by rfl) (hdb : (nm == ("__debug__" : Str)) = false := by decide)
    (hs : starEach (e :: []) X.env = (false, eval e X.env) :: starEach [] X.env := by rfl) (hpl : (backTo pos (starEach [] X.env)).any (·.1) = false := by rfl) : PS X (.Raise (some (.Call (.Name nm p) [e] [] pos)) none pos2) (tS X.K w P (sRaise c ev)) :=
  PS.of (ps_raiseTell hc T hr tk (pa_cons he pa_nil hs) gC hg hdb hs hpl) fun Dn σ H h => by
    obtain ⟨Xs, B, st, r, h⟩ := h
    show tE X.K w ev σ H _
    refine tE_S r h fun v H1 z st1 p1 p v1 h1 => ⟨v, rfl, fun d hd => ?_⟩
    have q := rel_new (o := .xd [(fV, v)]) p.rel.rel hd
    exact h1 d v σ _ (p.trans (.of p.rel q)) (by show msk _ _ d = _; rw [msk_out (rel_hid p.rel.rel hd), upd_same]) (dp_mono q.ex v1.dp)
end
/-! ### the value of a caught error -/
def fVal : D → Option R1 := fun d => match d with
  | .exc _ v => some (v, false)
  | _ => none
section
variable {X : Cx} {w : Wi} {pos : Pos}
theorem x_val {e : Expr} {ev : EvE} (he : PE X e (tE X.K w ev)) (hb : attributeBase e fV X.env (eval e X.env) = eval e X.env := by rfl) : PE X (.Attribute e fV pos) (tE X.K w (eUn fVal ev)) := by
  refine ⟨fun pins s σ H Q I h => ?_⟩
  obtain ⟨Xs, st, rel, h⟩ := h
  have h2 : tE X.K w ev σ H fun x H1 => ∃ a C dx v, x = .ref a ∧ GoodC X.K C ∧ H1 a = some (xo a (.ref C) (some dx)) ∧ H1 dx = some (.xd [(fV, v)]) ∧ Q v H1 := tE_seq rel h fun x H1 rx st1 p1 v1 h1 => by
    have dp := v1.dp
    revert h1 dp
    cases rx.1 with
    | exc C d =>
      intro h1 dp
      cases dp with
      | exc g e1 e2 e3 => exact ⟨_, C, _, _, rfl, g, msk_ex _ _ e1, msk_ex _ _ e2, h1 _ H1 p1 (.old e3)⟩
    | _ => intro h1; exact h1.elim
  refine attr_of hb (thn (he.run pins s σ H _ I h2) fun u s1 hh => ?_)
  obtain ⟨x, H1, I1, rx, a, C, dx, v, ex, g, ea, ed, q⟩ := hh
  subst ex
  obtain rfl : u = Value.ref a := rx
  obtain ⟨⟨oe, vs, ho, hoc, hod, hof⟩, _, _⟩ := (show ObjOk X.prog X.w H1 s1.heap a (xo a (.ref C) (some dx)) from I1.hok a _ ea)
  obtain ⟨mA, hns, hrel⟩ := (show ObjOk X.prog X.w H1 s1.heap dx (.xd [(fV, v)]) from I1.hok dx _ ed)
  obtain ⟨od, hdd, hl⟩ := lookIn_ns hns
  have lk : List.lookup fV [(fV, v)] = some v := by simp [List.lookup]
  obtain ⟨u2, hu, ru⟩ := RelO.some_of (v := v) (o := mA fV) (by rw [← lk]; exact hrel fV)
  have J : PySem.W.InstAt s1.heap a oe C (some od) := ⟨ho, hoc, by unfold PySem.W.notCls; rw [hof] <;> rfl, by rw [hod]; exact hdd⟩
  exact HandSPX.exc_get I1.kIn J g.ga g.gg g.exC (PySem.W.findObj_own g.hdC g.noV rfl (by rw [hl, hu])) (handed_of ru) ⟨v, H1, I1.tok _, ru, q⟩
end
end TX

end

section
set_option Elab.async false
set_option linter.all false
set_option maxRecDepth 100000
set_option maxHeartbeats 2000000
namespace TX
open PySem PySem.Spec L2 Evl PyProof.Rows

/-! ### try: .. except X as n: .. -/
/-- the wishes of the clauses: the class, the place of the name, the suite's reading; the error is a thing of its own from here on -/
def wEx (K : PySem.W.Frag) (Wout : WX) (Dn : Ends) : List (Value × Option Nat × TS) → WX
  | [] => Wout
  | (c, io, ts) :: r => fun cls d σ H => ∃ b, PySem.W.exmOne K cls c = some b ∧ (b = true → ∀ a, H a = none → match io with
      | none => ts Dn σ (upd H a (xo a cls d))
      | some i => ts { nx := fun σ' H' => Dn.nx (σ'.set i none) H', rt := Dn.rt, bk := fun σ' H' => Dn.bk (σ'.set i none) H', ct := fun σ' H' => Dn.ct (σ'.set i none) H' } (σ.set i (some (.ref a))) (upd H a (xo a cls d))) ∧
    (b = false → wEx K Wout Dn r cls d σ H)
inductive Cls (X : Cx) : List ExceptHandler → List (Value × Option Nat × TS) → Prop
  | nil : Cls X [] []
  | anon {x : Str} {c : Value} {ts : TS} {b₀ : Stmt} {suite : List Stmt} {np pos' : Pos} {r : List ExceptHandler} {l : List (Value × Option Nat × TS)} (hc : Names X x c) (hs : ∀ (a : Addr) (pn : List (Addr × Obj)), PSs (X.suite a pn) (b₀ :: suite) ts) (hr : Cls X r l) :
      Cls X (.ExceptHandler (some (.Name x np)) none (b₀ :: suite) pos' :: r) ((c, none, ts) :: l)
  | named {x n : Str} {i : Nat} {c : Value} {ts : TS} {b₀ : Stmt} {suite : List Stmt} {np pos' : Pos} {r : List ExceptHandler} {l : List (Value × Option Nat × TS)} (hc : Names X x c) (hi : X.N[i]? = some n) (hl : X.env.kindOf n = some .local)
      (hs : ∀ (a : Addr) (pn : List (Addr × Obj)), PSs (X.suite a pn) (b₀ :: suite) ts) (hr : Cls X r l) : Cls X (.ExceptHandler (some (.Name x np)) (some n) (b₀ :: suite) pos' :: r) ((c, some i, ts) :: l)
section
variable {X : Cx} {pins : List (Addr × Obj)} {σ : L2.St} {H : Hp} {s : Shared}
/-- a caught error is seen -/
theorem inv_caught {a : Addr} {oe : Obj} {vs : Array Value} {cls : Value} {d : Option Addr} (J : Inv X pins σ H s) (he : s.heap.get? a = some oe) (hd : oe.data = .fields vs) (hz : Zc cls d oe) (na : H a = none) (nL : a ≠ X.env.locals) (n0 : X.s_0.heap.get? a = none) (np : ∀ q ∈ X.pn ++ pins, q.1 ≠ a) (nF : a ∉ X.fs) :
    Inv (X.suite a (X.pn ++ pins)) [] σ (upd H a (xo a cls d)) s := by
  have old : ∀ b u, H b = some u → b ≠ a := fun b u e z => by rw [z, na] at e; cases e
  have old0 : ∀ b o, X.s_0.heap.get? b = some o → b ≠ a := fun b o e z => by rw [z, n0] at e; cases e
  refine ⟨J.ok.suite _ _, J.os, J.bare, ⟨J.base.keep, J.base.slot, fun b o e1 e2 e3 => ?_, J.base.there, fun b xs e => ?_, fun b o u e => ?_, fun b ps e => ?_⟩, J.loc, J.cell, ?_, fun y c e => ?_, fun q hq => ?_, fun b u e => ?_, J.len⟩
  · rw [upd_ne (old0 b o e1)]
    exact J.base.free b o e1 e2 e3
  · have z := J.base.tups b xs e
    rw [upd_ne (old b _ z)]
    exact z
  · have z := J.base.frzs b o u e
    rw [upd_ne (old b _ z)]
    exact z
  · obtain ⟨more, z⟩ := J.base.tbls b ps e
    exact ⟨more, by rw [upd_ne (old b _ z)]; exact z⟩
  · show upd H a _ X.env.locals = none
    rw [upd_ne (Ne.symm nL)]
    exact J.free
  · have ca : c ≠ a := fun z => by
      obtain ⟨v, o, ho, hv⟩ := J.cell y c e
      rw [z, he] at ho
      cases ho
      rw [hd] at hv
      cases hv
    rw [upd_ne ca]
    exact J.freeC y c e
  · have hq' : q ∈ X.pn ++ pins := by rw [List.append_nil] at hq; exact hq
    obtain ⟨k1, k2, k3, k4, k5⟩ := J.pin q hq'
    exact ⟨k1, by rw [upd_ne (np q hq')]; exact k2, k3, k4, k5⟩
  · by_cases hb : b = a
    · rw [hb, upd_same] at e
      cases e
      rw [hb]
      refine ⟨⟨oe, vs, he, hz.1, hz.2, hd⟩, ⟨oe, he⟩, fun h1 h2 ⟨o1, w1, k1, k2, k3, k4⟩ kk => ⟨o1, w1, kk _ k1, k2, k3, k4⟩⟩
    · rw [upd_ne hb] at e
      refine (J.hok b u e).stay (fun _ _ _ z => z) (fun x z => ?_) fun x xs z => ?_
      · rw [upd_ne (old x _ z)]; exact z
      · rw [upd_ne (old x _ z)]; exact z
theorem inv_past {a : Addr} {pn' : List (Addr × Obj)} {σ' : L2.St} {H' : Hp} {s' : Shared} (J : Inv (X.suite a (X.pn ++ pins)) pn' σ' H' s') (ok : X.Ok) : Inv X pins σ' H' s' :=
  ⟨ok, J.os, J.bare, J.base, J.loc, J.cell, J.free, J.freeC, fun q hq => J.pin q (List.mem_append_left _ hq), J.hok, J.len⟩
theorem ps_tryEx {body : List Stmt} {h₀ : ExceptHandler} {hds : List ExceptHandler} {l : List (Value × Option Nat × TS)} {pos : Pos} {tb : WX → TS} {Wout : WX} (hs : X.stack = X.env :: X.outer) (hf : X.env.frame = some X.env.locals) (hex : X.ex = []) (hN : X.N.Nodup) (tk : Takes X Wout)
    (hb : ∀ (W : WX) (pn : List (Addr × Obj)) (xe : Value → Shared → Prop), Takes (X.tr pn xe) W → PassesOwn (model X.prog X.w) X.A X.env xe → PSs (X.tr pn xe) body (tb W)) (hh : Cls X (h₀ :: hds) l) :
    PS X (.Try body (h₀ :: hds) [] [] pos) (fun Dn σ H => tb (wEx X.K Wout Dn l) Dn σ H) := by
  refine ⟨fun pins s σ H Dn I h => ?_⟩
  have ok := I.ok
  have hfr : X.A.frames = some (X.env :: X.outer) := by rw [ok.frames, hs]
  refine wpAny_Try_except ?_
  refine wpAny_mono ((hb (wEx X.K Wout Dn l) (X.pn ++ pins) (fun e s₁ => wpAny (model X.prog X.w) X.A (noteFrame e X.env) (fun _ s₂ => wpAny (model X.prog X.w) X.A (setFlight e none) (fun _ s₃ =>
    wpAny (model X.prog X.w) X.A (handleBy e X.env (h₀ :: hds)) (SP X pins Dn) X.xe s₃) X.xe s₂) X.xe s₁) (fun u s' xx => ?_) PassesOwn.looking).run [] s σ H Dn (I.toTry _) h) (fun f s1 hsp => ?_) (fun _ _ z => z)
  · obtain ⟨a, B, sI, pins', σ', H', cls, d, rfl, J', nb, up, sky, na, os, ag, w⟩ := xx
    have J : Inv X pins σ' H' sI := J'.ofTry ok
    have sky2 : Sky B (X.env :: X.outer) a (Zc cls d) X.env.locals s'.heap := by rw [← hs]; exact sky
    refine Sky.land Zc.steady hfr hf sky2 fun h3 f3 up3 => ?_
    have J3 : Inv X pins σ' H' { s' with heap := h3 } := J.landed nb f3.1 (up.trans up3) os ag
    obtain ⟨o3, v3, e3, z3, d3⟩ := f3.there
    have nfr : a ∉ frs (X.env :: X.outer) := fun hm => by
      obtain ⟨_, o', e', hn'⟩ := f3.2.2.1.mem hm
      rw [e3] at e'
      cases e'
      exact hn' _ d3
    have nL : a ≠ X.env.locals := fun z => nfr (List.mem_filterMap.mpr ⟨X.env, List.mem_cons_self, by rw [hf, z]⟩)
    have nF : a ∉ X.fs := fun hm => by
      obtain ⟨e, k1, k2⟩ := List.mem_filterMap.mp hm
      exact nfr (List.mem_filterMap.mpr ⟨e, List.mem_cons_of_mem _ k1, k2⟩)
    have nI : sI.heap.get? a = none := by
      cases e : sI.heap.get? a with
      | none => rfl
      | some o =>
        have z := nb a o e (by rw [hs]; exact nfr)
        rw [f3.2.1] at z
        cases z
    have n0 : X.s_0.heap.get? a = none := by
      cases e : X.s_0.heap.get? a with
      | none => rfl
      | some o =>
        obtain ⟨o', z⟩ := J.base.there a o e (by rw [hex]; simp)
        rw [nI] at z
        cases z
    have np : ∀ q ∈ X.pn ++ pins, q.1 ≠ a := fun q hq z => by
      have k := (J.pin q hq).1
      rw [z, nI] at k
      cases k
    have S3 := J3.suite e3 d3 na nL nF
    have go : ∀ {hs2 : List ExceptHandler} {l2 : List (Value × Option Nat × TS)}, Cls X hs2 l2 → wEx X.K Wout Dn l2 cls d σ' H' → wpAny (model X.prog X.w) X.A (handleBy (.ref a) X.env hs2) (SP X pins Dn) X.xe { s' with heap := h3 } := by
      intro hs2 l2 hk
      have LT : PySem.W.Looks (model X.prog X.w) h3 (typeOf (.ref a)) cls := fun A Q E s k q => wpAny_typeOf_ref (k _ _ e3) (by rw [z3.1]; exact q)
      have test : ∀ {x : Str} {c : Value} {np : Pos} {Q : Value → Shared → Prop} {E : Value → Shared → Prop}, Names X x c → Q c { s' with heap := h3 } → wpAny (model X.prog X.w) (X.A.mark (some (.ref a))) (eval (.Name x np) X.env) Q E { s' with heap := h3 } := fun {x c np Q E} hc q => by
        obtain ⟨k1, k2, k3 | ⟨k3, k4, k5⟩⟩ := hc
        · exact ld_glob (X := X.suite a ((a, o3) :: (X.pn ++ pins))) S3 k1 k3 q k2
        · exact ld_blt (X := X.suite a ((a, o3) :: (X.pn ++ pins))) S3 k1 k3 k4 q k5 k2
      induction hk with
      | nil =>
        intro w
        refine wpAny_handleBy_nil ?_
        obtain ⟨_, _, _, oe, ws, T, oT, ts', he, hz, hd, h1, hr⟩ := id f3
        unfold PySem.passOn
        refine wpAny_bind (wpAny_field he hd h1 ?_)
        rw [if_neg (show ¬ ((Value.ref T == Value.none) = true) from by simp)]
        have fin : wpAny (model X.prog X.w) X.A (setFlight (.ref a) X.env.frame) (fun _ s4 => wpAny (model X.prog X.w) X.A (throw (.ref a) : Sem Flow) (SP X pins Dn) X.xe s4) X.xe { s' with heap := h3 } := by
          rw [hf]
          refine HandSPX.setFlight_upZ f3 fun h4 hh4 up4 => wpAny_throw (tk _ _ ?_)
          exact ⟨a, B, sI, pins, σ', H', cls, d, rfl, J, nb, (up.trans up3).trans up4, .inr (.inr (by rw [hs]; exact hh4)), na, os, ag, w⟩
        first
          | exact wpAny_bind (wpAny_pure (wpAny_bind fin))
          | exact wpAny_bind fin
      | @anon x c ts b₀ suite np2 pos' r l3 hc hsu hr ih =>
        intro w
        obtain ⟨b, hb1, yes, no⟩ := w
        refine wpAny_handleBy_cons (codeAny_handlers_test ?_) (by intro q; cases q)
        refine test hc ((PySem.W.exm_one (M := model X.prog X.w) (J3.kIn) LT hb1).here ?_)
        cases b with
        | true =>
          refine codeAny_handlers_suite ?_
          refine HandSPX.lands_againZ f3 fun h4 f4 up4 => ?_
          have J4 : Inv X pins σ' H' { s' with heap := h4 } := J.landed nb f4.1 ((up.trans up3).trans up4) os ag
          obtain ⟨o4, v4, e4, z4, d4⟩ := f4.there
          refine wpAny_mono ((hsu a (X.pn ++ pins)).run [] _ _ _ _ (inv_caught J4 e4 d4 z4 na nL n0 np nF) (yes rfl a na)) (fun f s6 r6 => ?_) (fun _ _ z => False.elim z)
          match f, r6 with
          | .next, ⟨_, _, S6, q6⟩ => exact ⟨_, _, inv_past S6 ok, q6⟩
          | .brk, ⟨_, _, S6, q6⟩ => exact ⟨_, _, inv_past S6 ok, q6⟩
          | .cont, ⟨_, _, S6, q6⟩ => exact ⟨_, _, inv_past S6 ok, q6⟩
          | .ret u, ⟨_, _, _, S6, r6, q6⟩ => exact ⟨_, _, _, inv_past S6 ok, r6, q6⟩
        | false => exact ih (no rfl)
      | @named x n i c ts b₀ suite np2 pos' r l3 hc hi hl hsu hr ih =>
        intro w
        obtain ⟨b, hb1, yes, no⟩ := w
        refine wpAny_handleBy_cons (codeAny_handlers_test ?_) (by intro q; cases q)
        refine test hc ((PySem.W.exm_one (M := model X.prog X.w) (J3.kIn) LT hb1).here ?_)
        cases b with
        | true =>
          refine codeAny_handlers_suite_as ?_
          refine HandSPX.lands_againZ f3 fun h4 f4 up4 => ?_
          have J4 : Inv X pins σ' H' { s' with heap := h4 } := J.landed nb f4.1 ((up.trans up3).trans up4) os ag
          obtain ⟨o4, v4, e4, z4, d4⟩ := f4.there
          refine store_ok (X := X.suite a (X.pn ++ pins)) (v := .ref a) (inv_caught J4 e4 d4 z4 na nL n0 np nF) hN hi (.inl hl) rfl (fun s5 S5 => ?_) (.inr hl)
          refine wpAny_mono ((hsu a (X.pn ++ pins)).run [] s5 _ _ _ S5 (yes rfl a na)) (fun f s6 r6 => ?_) (fun _ _ z => False.elim z)
          have gone : ∀ {σ6 : L2.St} {H6 : Hp} {Q : Shared → Prop}, Inv (X.suite a (X.pn ++ pins)) [] σ6 H6 s6 → (∀ s7, Inv X pins (σ6.set i none) H6 s7 → Q s7) →
              wpAny (model X.prog X.w) X.A (do bindName X.env n .none; unbindBehindTheSuite X.env n pos') (fun _ s7 => Q s7) X.xe s6 := fun {σ6 H6 Q} S6 hq => gone_ok (inv_past S6 ok) hN hi hl hq
          match f, r6 with
          | .next, ⟨_, _, S6, q6⟩ => exact gone S6 fun s7 J7 => ⟨_, _, J7, q6⟩
          | .brk, ⟨_, _, S6, q6⟩ => exact gone S6 fun s7 J7 => ⟨_, _, J7, q6⟩
          | .cont, ⟨_, _, S6, q6⟩ => exact gone S6 fun s7 J7 => ⟨_, _, J7, q6⟩
          | .ret u, ⟨_, _, _, S6, r6, q6⟩ => exact gone S6 fun s7 J7 => ⟨_, _, _, J7, r6, q6⟩
        | false => exact ih (no rfl)
    exact go hh w
  · match f, hsp with
    | .next, ⟨σ2, H2, J2, q⟩ => exact wpAny_execs_nil ⟨σ2, H2, J2.ofTry ok, q⟩
    | .brk, ⟨σ2, H2, J2, q⟩ => exact ⟨σ2, H2, J2.ofTry ok, q⟩
    | .cont, ⟨σ2, H2, J2, q⟩ => exact ⟨σ2, H2, J2.ofTry ok, q⟩
    | .ret u, ⟨v, σ2, H2, J2, r, q⟩ => exact ⟨v, σ2, H2, J2.ofTry ok, r, q⟩
end

/-! ### its tree -/
/-- clauses: the class's number, the name's place, the suite -/
abbrev Hdl := List (Nat × Option Nat × EvS)
def isOw : Option Sl → Bool
  | some (.ow _) => true
  | _ => false
def noEx : SO → SO
  | .ex _ _ _ => .no
  | o => o
/-- the first clause that takes the error (mt: which classes are which) -/
def sHand (P : List Nat) (cl : Nat → Addr) (mt : Nat → Nat → Bool) (c : Nat) (d : D) (st : List Sl) : Hdl → SO
  | [] => .ex c d st
  | (k, none, ev) :: r => if mt c k = true then noEx (ev st) else sHand P cl mt c d st r
  | (k, some i, ev) :: r => if mt c k = true then (if i ∈ P ∨ st.length ≤ i then .no else match noEx (ev (st.set i (.pu (.exc (cl c) d)))) with
        | .nx s => .nx (s.set i .un)
        | .bk s => .bk (s.set i .un)
        | .ct s => .ct (s.set i .un)
        | o => o) else sHand P cl mt c d st r
def sTry (P : List Nat) (cl : Nat → Addr) (mt : Nat → Nat → Bool) (n : Nat) (body : EvS) (hs : Hdl) : EvS := fun st => match body st with
  | .ex c d st' => if c < n then sHand P cl mt c d st' hs else .no
  | o => o
abbrev wF (cl : Nat → Addr) : Wi := ⟨fun _ _ _ _ => False, cl⟩
/-- what the program's text says of its error classes, the first n by their numbers -/
structure ErrK (K : PySem.W.Frag) (cl : Nat → Addr) (mt : Nat → Nat → Bool) (n : Nat) : Prop where
  ex : ∀ c k, c < n → k < n → PySem.W.exmOne K (.ref (cl c)) (.ref (cl k)) = some (mt c k)
  good : ∀ c, c < n → GoodC K (cl c)
inductive ClT (X : Cx) (cl : Nat → Addr) (n : Nat) (P : List Nat) : List ExceptHandler → Hdl → Prop
  | nil : ClT X cl n P [] []
  | anon {x : Str} {k : Nat} {ev : EvS} {b₀ : Stmt} {suite : List Stmt} {np pos' : Pos} {r : List ExceptHandler} {l : Hdl} (hk : k < n) (hc : Names X x (.ref (cl k))) (hs : ∀ (a : Addr) (pn : List (Addr × Obj)), PSs (X.suite a pn) (b₀ :: suite) (tS X.K (wF cl) P ev)) (hr : ClT X cl n P r l) :
      ClT X cl n P (.ExceptHandler (some (.Name x np)) none (b₀ :: suite) pos' :: r) ((k, none, ev) :: l)
  | named {x nm : Str} {i k : Nat} {ev : EvS} {b₀ : Stmt} {suite : List Stmt} {np pos' : Pos} {r : List ExceptHandler} {l : Hdl} (hk : k < n) (hc : Names X x (.ref (cl k))) (hi : X.N[i]? = some nm) (hl : X.env.kindOf nm = some .local) (hs : ∀ (a : Addr) (pn : List (Addr × Obj)), PSs (X.suite a pn) (b₀ :: suite) (tS X.K (wF cl) P ev)) (hr : ClT X cl n P r l) :
      ClT X cl n P (.ExceptHandler (some (.Name x np)) (some nm) (b₀ :: suite) pos' :: r) ((k, some i, ev) :: l)
def hdT (K : PySem.W.Frag) (cl : Nat → Addr) (P : List Nat) : Hdl → List (Value × Option Nat × TS)
  | [] => []
  | (k, io, ev) :: r => (.ref (cl k), io, tS K (wF cl) P ev) :: hdT K cl P r
theorem ClT.cls {X : Cx} {cl : Nat → Addr} {n : Nat} {P : List Nat} : ∀ {hs : List ExceptHandler} {l : Hdl}, ClT X cl n P hs l → Cls X hs (hdT X.K cl P l)
  | _, _, .nil => .nil
  | _, _, .anon _ hc hs hr => .anon hc hs hr.cls
  | _, _, .named _ hc hi hl hs hr => .named hc hi hl hs hr.cls
theorem ClT.lt {X : Cx} {cl : Nat → Addr} {n : Nat} {P : List Nat} : ∀ {hs : List ExceptHandler} {l : Hdl}, ClT X cl n P hs l → ∀ q ∈ l, q.1 < n
  | _, _, .nil => fun q h => by cases h
  | _, _, .anon hk _ _ hr => fun q h => by
    rcases List.mem_cons.mp h with e | h
    · rw [e]; exact hk
    · exact hr.lt q h
  | _, _, .named hk _ _ _ _ hr => fun q h => by
    rcases List.mem_cons.mp h with e | h
    · rw [e]; exact hk
    · exact hr.lt q h
section
variable {K : PySem.W.Frag} {Xs : List Addr} {P : List Nat} {B : Hp} {st : List Sl} {σ : L2.St} {H : Hp}
/-- a slot is forgotten, and its name goes -/
theorem relS_unset {i : Nat} (r : RelS K Xs P B st σ H) (hi : i ∉ P) : PostS K Xs P B st σ H (st.set i .un) (σ.set i none) H := by
  have sub := hid_sub (Xs := Xs) (ownd_set_sub (s' := .un) (fun _ e => by cases e) (st := st) (σ := σ) (i := i) (v := none))
  have ex : Ex (vis Xs st σ H) (vis Xs (st.set i .un) (σ.set i none) H) := msk_sub fun a ha => sub.subset ha
  have at_ : ∀ {j : Nat} {s : Sl}, s ≠ .un → (st.set i .un)[j]? = some s → i ≠ j ∧ st[j]? = some s := fun {j s} hs hj => by
    by_cases e : i = j
    · subst e
      have hlt : i < st.length := by
        have := (List.getElem?_eq_some_iff.mp hj).1
        rw [List.length_set] at this
        exact this
      rw [List.getElem?_set_self hlt] at hj
      cases hj
      exact absurd rfl hs
    · rw [List.getElem?_set_ne e] at hj
      exact ⟨e, hj⟩
  refine ⟨⟨⟨by rw [List.length_set, List.length_set]; exact r.rel.len, r.rel.nd.sublist sub, fun j d hj => ?_, fun j ds hj => ?_, r.rel.xs⟩, fun j ds p hp hj hq => ?_, r.dom⟩, ex, fun _ _ => Kp.refl _, fun _ h => h, fun j hj => List.getElem?_set_ne fun e => hi (by rw [e]; exact hj)⟩
  · obtain ⟨e, hj⟩ := at_ (by simp) hj
    obtain ⟨u, q1, q2⟩ := r.rel.pu j d hj
    exact ⟨u, by rw [List.getElem?_set_ne e]; exact q1, dp_mono ex q2⟩
  · obtain ⟨e, hj⟩ := at_ (by simp) hj
    obtain ⟨p, vs, q1, q2, q3⟩ := r.rel.ow j ds hj
    exact ⟨p, vs, by rw [List.getElem?_set_ne e]; exact q1, q2, dpAll_mono ex q3⟩
  · obtain ⟨e, hj⟩ := at_ (by simp) hj
    rw [List.getElem?_set_ne e] at hq
    exact r.own j ds p hp hj hq
theorem RdS.noEx {w w' : Wi} {Dn Dn' : Ends} {o : SO} (h : RdS K w Xs P B st σ H Dn (TX.noEx o)) (h1 : ∀ st' σ' H', o = .nx st' → PostS K Xs P B st σ H st' σ' H' → Dn.nx σ' H' → Dn'.nx σ' H') (h2 : ∀ v H', Dn.rt v H' → Dn'.rt v H') (h3 : ∀ σ' H', Dn.bk σ' H' → Dn'.bk σ' H') (h4 : ∀ σ' H', Dn.ct σ' H' → Dn'.ct σ' H') : RdS K w' Xs P B st σ H Dn' o := by
  cases o with
  | nx s => exact fun σ' H' p => h1 s σ' H' rfl p (h σ' H' p)
  | rt r s => exact fun v σ' H' p q => h2 _ _ (h v σ' H' p q)
  | bk s => exact fun σ' H' p => h3 _ _ (h σ' H' p)
  | ct s => exact fun σ' H' p => h4 _ _ (h σ' H' p)
  | ex c d s => exact h.elim
  | no => exact h
theorem hand_of {w : Wi} {mt : Nat → Nat → Bool} {n c : Nat} {d : D} {st' : List Sl} {σ' : L2.St} {H' : Hp} {dx : Addr} {v : V} {Dn : Ends} (E : ErrK K w.cl mt n) (hc : c < n) (p : PostS K Xs P B st σ H st' σ' H') (hd : Dq K (vis Xs st' σ' H') v d) (hdx : vis Xs st' σ' H' dx = some (.xd [(fV, v)])) :
    ∀ {l : Hdl}, (∀ q ∈ l, q.1 < n) → RdS K w Xs P B st σ H Dn (sHand P w.cl mt c d st' l) → wEx K w.W Dn (hdT K w.cl P l) (.ref (w.cl c)) (some dx) σ' H'
  | [], _, h => h dx v σ' H' p hdx hd
  | (k, none, ev) :: r, hl, h => by
    have hk := hl _ List.mem_cons_self
    refine ⟨mt c k, E.ex c k hc hk, fun hb a ha => ?_, fun hb => ?_⟩
    · have h' : RdS K w Xs P B st σ H Dn (noEx (ev st')) := by
        unfold sHand at h
        rw [if_pos hb] at h
        exact h
      have q := PostS.of p.rel (rel_new (o := xo a (.ref (w.cl c)) (some dx)) p.rel.rel ha)
      exact ⟨Xs, B, st', (p.trans q).rel, (RdS.on (p.trans q) h').noEx (fun _ _ _ _ _ z => z) (fun _ _ z => z) (fun _ _ z => z) fun _ _ z => z⟩
    · have h' : RdS K w Xs P B st σ H Dn (sHand P w.cl mt c d st' r) := by
        unfold sHand at h
        rw [if_neg (by rw [hb]; decide)] at h
        exact h
      exact hand_of E hc p hd hdx (fun q hq => hl q (List.mem_cons_of_mem _ hq)) h'
  | (k, some i, ev) :: r, hl, h => by
    have hk := hl _ List.mem_cons_self
    refine ⟨mt c k, E.ex c k hc hk, fun hb a ha => ?_, fun hb => ?_⟩
    · have h' : RdS K w Xs P B st σ H Dn (if i ∈ P ∨ st'.length ≤ i then .no else match noEx (ev (st'.set i (.pu (.exc (w.cl c) d)))) with
          | .nx s => .nx (s.set i .un)
          | .bk s => .bk (s.set i .un)
          | .ct s => .ct (s.set i .un)
          | o => o) := by
        unfold sHand at h
        rw [if_pos hb] at h
        exact h
      split at h'
      · exact h'.elim
      · next hi =>
        have hi' : i ∉ P := fun z => hi (.inl z)
        have q1 := PostS.of p.rel (rel_new (o := xo a (.ref (w.cl c)) (some dx)) p.rel.rel ha)
        have na := rel_hid p.rel.rel ha
        have dq : Dq K (vis Xs st' σ' (upd H' a (xo a (.ref (w.cl c)) (some dx)))) (.ref a) (.exc (w.cl c) d) :=
          .exc (E.good c hc) (by show msk _ _ a = _; rw [msk_out na, upd_same]) (q1.ex _ _ hdx) (dp_mono q1.ex hd)
        have q2 := relS_set (i := i) q1.rel hi' (.inr ⟨_, rfl, dq⟩)
        have q := (p.trans q1).trans q2
        refine ⟨Xs, B, _, q.rel, ?_⟩
        have un : ∀ {s : List Sl} {σ2 : L2.St} {H2 : Hp}, PostS K Xs P B (st'.set i (.pu (.exc (w.cl c) d))) (σ'.set i (some (.ref a))) (upd H' a (xo a (.ref (w.cl c)) (some dx))) s σ2 H2 → PostS K Xs P B st σ H (s.set i .un) (σ2.set i none) H2 := fun z => (q.trans z).trans (relS_unset z.rel hi')
        cases eo : ev (st'.set i (.pu (.exc (w.cl c) d))) with
        | nx s => rw [eo] at h'; exact fun σ2 H2 z => h' _ _ (un z)
        | bk s => rw [eo] at h'; exact fun σ2 H2 z => h' _ _ (un z)
        | ct s => rw [eo] at h'; exact fun σ2 H2 z => h' _ _ (un z)
        | rt z s => rw [eo] at h'; exact fun v2 σ2 H2 z => h' v2 σ2 H2 (q.trans z)
        | ex c2 d2 s => rw [eo] at h'; exact h'.elim
        | no => rw [eo] at h'; exact h'.elim
    · have h' : RdS K w Xs P B st σ H Dn (sHand P w.cl mt c d st' r) := by
        unfold sHand at h
        rw [if_neg (by rw [hb]; decide)] at h
        exact h
      exact hand_of E hc p hd hdx (fun q hq => hl q (List.mem_cons_of_mem _ hq)) h'
end
theorem xs_try {X : Cx} {w : Wi} {P : List Nat} {mt : Nat → Nat → Bool} {n : Nat} {body : List Stmt} {h₀ : ExceptHandler} {hds : List ExceptHandler} {l : Hdl} {eb : EvS} {pos : Pos} (E : ErrK X.K w.cl mt n) (tk : Takes X w.W) (hN : X.N.Nodup)
    (hb : ∀ (W : WX) (pn : List (Addr × Obj)) (xe : Value → Shared → Prop), Takes (X.tr pn xe) W → PassesOwn (model X.prog X.w) X.A X.env xe → PSs (X.tr pn xe) body (tS X.K ⟨W, w.cl⟩ P eb)) (hh : ClT X w.cl n P (h₀ :: hds) l)
    (hs : X.stack = X.env :: X.outer := by rfl) (hf : X.env.frame = some X.env.locals := by rfl) (hex : X.ex = [] := by rfl) : PS X (.Try body (h₀ :: hds) [] [] pos) (tS X.K w P (sTry P w.cl mt n eb l)) :=
  PS.of (ps_tryEx (tb := fun W => tS X.K ⟨W, w.cl⟩ P eb) hs hf hex hN tk hb hh.cls) fun Dn σ H h => by
    obtain ⟨Xs, B, st, r, h⟩ := h
    refine ⟨Xs, B, st, r, ?_⟩
    unfold sTry at h
    cases e : eb st with
    | nx s => rw [e] at h; exact h
    | rt z s => rw [e] at h; exact h
    | bk s => rw [e] at h; exact h
    | ct s => rw [e] at h; exact h
    | no => rw [e] at h; exact h
    | ex c d s =>
      rw [e] at h
      dsimp only at h
      split at h
      · next hc =>
        intro dx v σ' H' p hx hd
        exact hand_of E hc p hd hx hh.lt h
      · exact h.elim
end TX

end

section
set_option Elab.async false
set_option linter.all false
set_option maxRecDepth 100000
set_option maxHeartbeats 2000000
namespace TX
open PySem L2 Evl PyProof.Rows

/-! ### comprehensions: their names' slots are forgotten, and stand again behind -/
def wipeS (st : List Sl) : List Nat → List Sl
  | [] => st
  | v :: vs => (wipeS st vs).set v .un
/-- behind it: the names' slots of before -/
def backS (st0 st : List Sl) : List Nat → List Sl
  | [] => st
  | v :: vs => (backS st0 st vs).set v (st0.getD v .un)
theorem wipe_get {vs : List Nat} : ∀ {σ : L2.St} {i : Nat}, i ∉ vs → (wipe σ vs)[i]? = σ[i]? := fun {σ i} h => by
  induction vs with
  | nil => rfl
  | cons v vs ih =>
    have h1 : i ≠ v := fun e => h (by rw [e]; exact List.mem_cons_self)
    show ((wipe σ vs).set v none)[i]? = _
    rw [List.getElem?_set_ne (Ne.symm h1)]
    exact ih fun z => h (List.mem_cons_of_mem _ z)
theorem wipe_in {vs : List Nat} : ∀ {σ : L2.St} {i : Nat}, i ∈ vs → i < σ.length → (wipe σ vs)[i]? = some none := fun {σ i} h hl => by
  induction vs with
  | nil => cases h
  | cons v vs ih =>
    show ((wipe σ vs).set v none)[i]? = _
    by_cases e : v = i
    · subst e
      rw [List.getElem?_set_self (by rw [wipe_length]; exact hl)]
    · rw [List.getElem?_set_ne e]
      exact ih (by
        rcases List.mem_cons.mp h with h | h
        · exact absurd h.symm e
        · exact h)
theorem wipeS_len {vs : List Nat} : ∀ {st : List Sl}, (wipeS st vs).length = st.length := fun {st} => by
  induction vs with
  | nil => rfl
  | cons v vs ih => show ((wipeS st vs).set v .un).length = _; rw [List.length_set]; exact ih
theorem wipeS_get {vs : List Nat} : ∀ {st : List Sl} {i : Nat}, i ∉ vs → (wipeS st vs)[i]? = st[i]? := fun {st i} h => by
  induction vs with
  | nil => rfl
  | cons v vs ih =>
    have h1 : i ≠ v := fun e => h (by rw [e]; exact List.mem_cons_self)
    show ((wipeS st vs).set v .un)[i]? = _
    rw [List.getElem?_set_ne (Ne.symm h1)]
    exact ih fun z => h (List.mem_cons_of_mem _ z)
theorem wipeS_in {vs : List Nat} : ∀ {st : List Sl} {i : Nat}, i ∈ vs → i < st.length → (wipeS st vs)[i]? = some .un := fun {st i} h hl => by
  induction vs with
  | nil => cases h
  | cons v vs ih =>
    show ((wipeS st vs).set v .un)[i]? = _
    by_cases e : v = i
    · subst e
      rw [List.getElem?_set_self (by rw [wipeS_len]; exact hl)]
    · rw [List.getElem?_set_ne e]
      exact ih (by
        rcases List.mem_cons.mp h with h | h
        · exact absurd h.symm e
        · exact h)
theorem backS_len {vs : List Nat} : ∀ {st0 st : List Sl}, (backS st0 st vs).length = st.length := fun {st0 st} => by
  induction vs with
  | nil => rfl
  | cons v vs ih => show ((backS st0 st vs).set v _).length = _; rw [List.length_set]; exact ih
theorem backS_get {vs : List Nat} : ∀ {st0 st : List Sl} {i : Nat}, i ∉ vs → (backS st0 st vs)[i]? = st[i]? := fun {st0 st i} h => by
  induction vs with
  | nil => rfl
  | cons v vs ih =>
    have h1 : i ≠ v := fun e => h (by rw [e]; exact List.mem_cons_self)
    show ((backS st0 st vs).set v _)[i]? = _
    rw [List.getElem?_set_ne (Ne.symm h1)]
    exact ih fun z => h (List.mem_cons_of_mem _ z)
theorem backS_in {vs : List Nat} : ∀ {st0 st : List Sl} {i : Nat}, i ∈ vs → i < st.length → st0.length = st.length → (backS st0 st vs)[i]? = st0[i]? := fun {st0 st i} h hl e0 => by
  induction vs with
  | nil => cases h
  | cons v vs ih =>
    show ((backS st0 st vs).set v (st0.getD v .un))[i]? = _
    by_cases e : v = i
    · subst e
      rw [List.getElem?_set_self (by rw [backS_len]; exact hl), List.getD_eq_getElem?_getD]
      rw [List.getElem?_eq_getElem (by omega)]
      rfl
    · rw [List.getElem?_set_ne e]
      exact ih (by
        rcases List.mem_cons.mp h with h | h
        · exact absurd h.symm e
        · exact h)
theorem st_ext {α : Type} {a b : List α} (h : ∀ i : Nat, a[i]? = b[i]?) : a = b := List.ext_getElem? h
/-- a slot of a name of its own takes a value: nothing to the others -/
theorem wipe_set {vs : List Nat} {σ : L2.St} {i : Nat} {x : Option V} (h : i ∈ vs) : wipe (σ.set i x) vs = wipe σ vs := st_ext fun j => by
  by_cases hj : j ∈ vs
  · by_cases hl : j < σ.length
    · rw [wipe_in hj hl, wipe_in hj (by rw [List.length_set]; exact hl)]
    · rw [List.getElem?_eq_none (by rw [wipe_length, List.length_set]; omega), List.getElem?_eq_none (by rw [wipe_length]; omega)]
  · rw [wipe_get hj, wipe_get hj, List.getElem?_set_ne (fun e => hj (by rw [← e]; exact h))]
theorem wipe_wipe {vs : List Nat} {σ : L2.St} : wipe (wipe σ vs) vs = wipe σ vs := st_ext fun j => by
  by_cases hj : j ∈ vs
  · by_cases hl : j < σ.length
    · rw [wipe_in hj hl, wipe_in hj (by rw [wipe_length]; exact hl)]
    · rw [List.getElem?_eq_none (by rw [wipe_length, wipe_length]; omega), List.getElem?_eq_none (by rw [wipe_length]; omega)]
  · rw [wipe_get hj]
/-- no slot of these owns a list -/
def noOwn (st : List Sl) (vs : List Nat) : Bool := vs.all fun i => !isOw st[i]?
theorem noOwn_of {st : List Sl} {vs : List Nat} (h : noOwn st vs = true) : ∀ i ∈ vs, ∀ ds, st[i]? ≠ some (.ow ds) := fun i hi ds e => by
  have := (List.all_eq_true.mp h) i hi
  rw [e] at this
  cases this
/-- ownership hangs on the owning slots alone -/
theorem ownd_agree : ∀ {st s : List Sl} {σ τ : L2.St}, s.length = st.length → σ.length = τ.length → (∀ (i : Nat) (ds : List D), st[i]? = some (.ow ds) → (∃ es, s[i]? = some (.ow es)) ∧ σ[i]? = τ[i]?) → (∀ (i : Nat) (ds : List D), s[i]? = some (.ow ds) → ∃ es, st[i]? = some (.ow es)) → ownd st σ = ownd s τ
  | [], [], σ, τ, _, _, _, _ => by unfold ownd; rfl
  | [], _ :: _, _, _, h, _, _, _ => by simp at h
  | _ :: _, [], _, _, h, _, _, _ => by simp at h
  | a :: st, c :: s, [], [], _, _, _, _ => by rw [ownd_nil_r, ownd_nil_r]
  | a :: st, c :: s, [], _ :: _, _, h, _, _ => by simp at h
  | a :: st, c :: s, _ :: _, [], _, h, _, _ => by simp at h
  | a :: st, c :: s, x :: σ, y :: τ, h1, h2, h3, h4 => by
    have ih := ownd_agree (st := st) (s := s) (σ := σ) (τ := τ) (by simpa using h1) (by simpa using h2) (fun i ds e => by simpa using h3 (i + 1) ds (by simpa using e)) (fun i ds e => by simpa using h4 (i + 1) ds (by simpa using e))
    cases a with
    | ow ds =>
      obtain ⟨⟨es, e1⟩, e2⟩ := h3 0 ds rfl
      simp at e1 e2
      subst e1; subst e2
      show ownd (.ow ds :: st) (x :: σ) = ownd (.ow es :: s) (x :: τ)
      cases x with
      | none => exact ih
      | some v =>
        cases v with
        | ref p => exact congrArg (p :: ·) ih
        | _ => exact ih
    | un =>
      cases c with
      | ow es => obtain ⟨_, e⟩ := h4 0 es rfl; simp at e
      | un => exact ih
      | pu _ => exact ih
    | pu _ =>
      cases c with
      | ow es => obtain ⟨_, e⟩ := h4 0 es rfl; simp at e
      | un => exact ih
      | pu _ => exact ih
section
variable {K : PySem.W.Frag} {Xs : List Addr} {st : List Sl} {σ : L2.St} {H : Hp} {vs : List Nat}
theorem ownd_wipe {st : List Sl} {σ τ : L2.St} {vs : List Nat} (hl : st.length = σ.length) (hlt : σ.length = τ.length) (hn : ∀ i ∈ vs, ∀ ds, st[i]? ≠ some (.ow ds)) (ht : ∀ i, i ∉ vs → σ[i]? = τ[i]?) : ownd st σ = ownd (wipeS st vs) τ :=
  ownd_agree wipeS_len hlt (fun i ds e => by
    have hi : i ∉ vs := fun z => hn i z ds e
    exact ⟨⟨ds, by rw [wipeS_get hi]; exact e⟩, ht i hi⟩) (fun i ds e => by
    by_cases hi : i ∈ vs
    · have hlt : i < st.length := by have := (List.getElem?_eq_some_iff.mp e).1; rw [wipeS_len] at this; exact this
      rw [wipeS_in hi hlt] at e; cases e
    · rw [wipeS_get hi] at e; exact ⟨ds, e⟩)
/-- the block's slots: σ' agrees with σ but for the names -/
theorem rel_wipe {τ : L2.St} (r : Rel K Xs st σ H) (hn : ∀ i ∈ vs, ∀ ds, st[i]? ≠ some (.ow ds)) (hl : σ.length = τ.length) (ht : ∀ i, i ∉ vs → σ[i]? = τ[i]?) : Rel K Xs (wipeS st vs) τ H ∧ vis Xs (wipeS st vs) τ H = vis Xs st σ H := by
  have eo := ownd_wipe r.len hl hn ht
  have ev : vis Xs (wipeS st vs) τ H = vis Xs st σ H := by show msk (ownd _ _ ++ Xs) H = _; rw [← eo]
  refine ⟨⟨by rw [wipeS_len, r.len, hl], by show (ownd _ _ ++ Xs).Nodup; rw [← eo]; exact r.nd, fun i d hi => ?_, fun i ds hi => ?_, r.xs⟩, ev⟩
  · by_cases hm : i ∈ vs
    · have hlt : i < st.length := by have := (List.getElem?_eq_some_iff.mp hi).1; rw [wipeS_len] at this; exact this
      rw [wipeS_in hm hlt] at hi; cases hi
    · rw [wipeS_get hm] at hi
      obtain ⟨v, q1, q2⟩ := r.pu i d hi
      exact ⟨v, by rw [← ht i hm]; exact q1, by rw [ev]; exact q2⟩
  · by_cases hm : i ∈ vs
    · have hlt : i < st.length := by have := (List.getElem?_eq_some_iff.mp hi).1; rw [wipeS_len] at this; exact this
      rw [wipeS_in hm hlt] at hi; cases hi
    · rw [wipeS_get hm] at hi
      obtain ⟨p, us, q1, q2, q3⟩ := r.ow i ds hi
      exact ⟨p, us, by rw [← ht i hm]; exact q1, q2, by rw [ev]; exact q3⟩
/-- behind the block -/
theorem rel_unwipe {st1 : List Sl} {H1 : Hp} (r0 : Rel K Xs st σ H) (hn : ∀ i ∈ vs, ∀ ds, st[i]? ≠ some (.ow ds)) (r1 : Rel K Xs (wipeS st1 vs) (wipe σ vs) H1) (hl : st1.length = st.length) (ex : Ex (vis Xs st σ H) (vis Xs (wipeS st1 vs) (wipe σ vs) H1)) :
    Rel K Xs (backS st st1 vs) σ H1 ∧ vis Xs (backS st st1 vs) σ H1 = vis Xs (wipeS st1 vs) (wipe σ vs) H1 := by
  have eo : ownd (wipeS st1 vs) (wipe σ vs) = ownd (backS st st1 vs) σ := ownd_agree (by rw [backS_len, wipeS_len]) (wipe_length σ vs) (fun i ds e => by
    by_cases hm : i ∈ vs
    · have hlt : i < st1.length := by have := (List.getElem?_eq_some_iff.mp e).1; rw [wipeS_len] at this; exact this
      rw [wipeS_in hm hlt] at e; cases e
    · rw [wipeS_get hm] at e
      exact ⟨⟨ds, by rw [backS_get hm]; exact e⟩, wipe_get hm⟩) (fun i ds e => by
    by_cases hm : i ∈ vs
    · have hlt : i < st1.length := by have := (List.getElem?_eq_some_iff.mp e).1; rw [backS_len] at this; exact this
      rw [backS_in hm hlt hl.symm] at e
      exact absurd e (hn i hm ds)
    · rw [backS_get hm] at e
      exact ⟨ds, by rw [wipeS_get hm]; exact e⟩)
  have ev : vis Xs (backS st st1 vs) σ H1 = vis Xs (wipeS st1 vs) (wipe σ vs) H1 := by show msk (ownd _ _ ++ Xs) H1 = _; rw [← eo]
  refine ⟨⟨by rw [backS_len, hl]; exact r0.len, by show (ownd _ _ ++ Xs).Nodup; rw [← eo]; exact r1.nd, fun i d hi => ?_, fun i ds hi => ?_, r1.xs⟩, ev⟩
  · rw [ev]
    by_cases hm : i ∈ vs
    · have hlt : i < st1.length := by have := (List.getElem?_eq_some_iff.mp hi).1; rw [backS_len] at this; exact this
      rw [backS_in hm hlt hl.symm] at hi
      obtain ⟨v, q1, q2⟩ := r0.pu i d hi
      exact ⟨v, q1, dp_mono ex q2⟩
    · rw [backS_get hm] at hi
      obtain ⟨v, q1, q2⟩ := r1.pu i d (by rw [wipeS_get hm]; exact hi)
      exact ⟨v, by rw [wipe_get hm] at q1; exact q1, q2⟩
  · rw [ev]
    by_cases hm : i ∈ vs
    · have hlt : i < st1.length := by have := (List.getElem?_eq_some_iff.mp hi).1; rw [backS_len] at this; exact this
      rw [backS_in hm hlt hl.symm] at hi
      exact absurd hi (hn i hm ds)
    · rw [backS_get hm] at hi
      obtain ⟨p, us, q1, q2, q3⟩ := r1.ow i ds (by rw [wipeS_get hm]; exact hi)
      exact ⟨p, us, by rw [wipe_get hm] at q1; exact q1, q2, q3⟩
end
/-- the turns: vs the names' slots -/
def cLoop (vs : List Nat) (put : D → List Sl → SO) (t : EvT) (e : EvE) : List D → List Sl → O (List D)
  | [], st => .ok [] st
  | d :: r, st => match put d (wipeS st vs) with
    | .nx st1 => match t st1 with
      | .ok true st2 => match e st2 with
        | .ok z st3 => if noOwn st3 vs = true then (match cLoop vs put t e r st3 with
          | .ok zs st4 => .ok (z.1 :: zs) st4
          | _ => .no) else .no
        | _ => .no
      | .ok false st2 => if noOwn st2 vs = true then cLoop vs put t e r st2 else .no
      | _ => .no
    | _ => .no
def eLc (vs : List Nat) (it : EvI) (put : D → List Sl → SO) (t : EvT) (e : EvE) : EvE := fun st => (it st).bind fun ds st1 => if noOwn st1 vs = true ∧ ds.length ≤ 100000 then (match cLoop vs put t e ds st1 with
  | .ok zs st2 => if st2.length = st1.length then .ok (.lst zs, true) (backS st1 st2 vs) else .no
  | _ => .no) else .no
def tTrue : EvT := fun st => .ok true st
section
variable {X : Cx} {w : Wi} {vs : List Nat}
theorem cLoop_len {K : PySem.W.Frag} {put : D → List Sl → SO} {t : EvT} {e : EvE} : ∀ {ds zs : List D} {st st' : List Sl}, cLoop vs put t e ds st = .ok zs st' → zs.length ≤ ds.length
  | [], zs, st, st', h => by
    have h' : (O.ok [] st : O (List D)) = .ok zs st' := h
    cases h'
    exact Nat.le_refl _
  | d :: r, zs, st, st', h => by
    unfold cLoop at h
    split at h
    · split at h
      · split at h
        · split at h
          · split at h
            · next e2 =>
              cases h
              have := cLoop_len (K := K) e2
              rw [List.length_cons, List.length_cons]
              omega
            · cases h
          · cases h
        · cases h
      · split at h
        · have := cLoop_len (K := K) h
          rw [List.length_cons]
          omega
        · cases h
      · cases h
    · cases h
/-- a target that writes these names' slots alone -/
def GW (vs : List Nat) (g : TG) : Prop := ∀ (x : V) (σ : L2.St) (H : Hp) (R : L2.St → Hp → Prop), wipe σ vs = σ → (g x σ H fun σ2 H2 => wipe σ2 vs = σ → R σ2 H2) → g x σ H fun σ2 H2 => wipe σ2 vs = σ ∧ R σ2 H2
theorem gw_name {i : Nat} (h : i ∈ vs) : GW vs (gName i) := fun x σ H R e q => by
  have e2 : wipe (σ.set i (some x)) vs = σ := by rw [wipe_set h]; exact e
  exact ⟨e2, q e2⟩
theorem gw_names : ∀ {is : List Nat}, (∀ i ∈ is, i ∈ vs) → ∀ (xs : List V) (σ0 σ : L2.St) (H : Hp) (R : L2.St → Hp → Prop), wipe σ vs = σ0 → (gNames is xs σ H fun σ2 H2 => wipe σ2 vs = σ0 → R σ2 H2) → gNames is xs σ H fun σ2 H2 => wipe σ2 vs = σ0 ∧ R σ2 H2
  | [], _, xs, σ0, σ, H, R, e, q => ⟨q.1, e, q.2 e⟩
  | i :: is, hi, xs, σ0, σ, H, R, e, q => by
    obtain ⟨v, r, h1, h2⟩ := q
    exact ⟨v, r, h1, gw_names (fun j hj => hi j (List.mem_cons_of_mem _ hj)) r σ0 (σ.set i (some v)) H R (by rw [wipe_set (hi i List.mem_cons_self)]; exact e) h2⟩
theorem gw_tup {K : PySem.W.Frag} {n : Nat} {is : List Nat} (h : ∀ i ∈ is, i ∈ vs) : GW vs (gTup K n (gNames is)) := fun x σ H R e q => by
  obtain ⟨a, xs, h1, h2, h3, h4⟩ := q
  exact ⟨a, xs, h1, h2, h3, gw_names h xs σ σ H R e h4⟩
/-- it comes to an end, or not at all; it makes no owner -/
def PutO (put : D → List Sl → SO) : Prop := ∀ d st, put d st ≠ .no → ∃ s, put d st = .nx s ∧ OwLess st s
theorem owLess_set {st : List Sl} {i : Nat} {d : D} : OwLess st (st.set i (.pu d)) := fun j es hj => by
  by_cases e : i = j
  · subst e
    by_cases hl : i < st.length
    · rw [List.getElem?_set_self hl] at hj; cases hj
    · rw [List.getElem?_eq_none (by rw [List.length_set]; omega)] at hj; cases hj
  · rw [List.getElem?_set_ne e] at hj; exact ⟨es, hj⟩
theorem putO_name {P : List Nat} {i : Nat} : PutO (putN P i) := fun d st h => by
  unfold putN at h ⊢
  split at h
  · exact absurd rfl h
  · next hc => rw [if_neg hc]; exact ⟨_, rfl, owLess_set⟩
theorem putO_all {P : List Nat} : ∀ {is : List Nat} {ds : List D} {st : List Sl}, putAll P is ds st ≠ .no → ∃ s, putAll P is ds st = .nx s ∧ OwLess st s
  | [], [], st, h => ⟨st, rfl, OwLess.refl st⟩
  | [], _ :: _, st, h => absurd rfl h
  | _ :: _, [], st, h => absurd rfl h
  | i :: is, d :: ds, st, h => by
    unfold putAll at h ⊢
    split at h
    · exact absurd rfl h
    · next hc =>
      rw [if_neg hc]
      obtain ⟨s, e1, e2⟩ := putO_all h
      exact ⟨s, e1, owLess_set.trans e2⟩
theorem putO_tup {P : List Nat} {is : List Nat} : PutO (putT P is) := fun d st h => by
  unfold putT at h ⊢
  split at h
  · exact putO_all h
  · exact absurd rfl h
theorem rel_updH {K : PySem.W.Frag} {Xs : List Addr} {st : List Sl} {σ : L2.St} {H : Hp} {p : Addr} {o : HO} (hl : ∃ us, H p = some (.lst us)) (r : Rel K (p :: Xs) st σ H) : Rel K (p :: Xs) st σ (upd H p o) ∧ vis (p :: Xs) st σ (upd H p o) = vis (p :: Xs) st σ H := by
  have hm : p ∈ hid (p :: Xs) st σ := List.mem_append_right _ List.mem_cons_self
  have ev : vis (p :: Xs) st σ (upd H p o) = vis (p :: Xs) st σ H := msk_upd hm
  have hn : p ∉ ownd st σ := fun h => by
    have := r.nd
    rw [show hid (p :: Xs) st σ = ownd st σ ++ p :: Xs from rfl, List.nodup_append] at this
    exact this.2.2 p h p List.mem_cons_self rfl
  refine ⟨⟨r.len, r.nd, fun i d hi => by rw [ev]; exact r.pu i d hi, fun i ds hi => ?_, fun x hx => ?_, fun P hP => ⟨(r.xs.tb P hP).1, ?_⟩⟩, ev⟩
  · obtain ⟨q, vs, q1, q2, q3⟩ := r.ow i ds hi
    exact ⟨q, vs, q1, by rw [upd_ne fun z => hn (by rw [← z]; exact ownd_mem hi q1)]; exact q2, by rw [ev]; exact q3⟩
  · by_cases e : x = p
    · rw [e, upd_same]; simp
    · rw [upd_ne e]; exact r.xs.ne x hx
  · obtain ⟨ps, h1, h2⟩ := (r.xs.tb P hP).2
    refine ⟨ps, ?_, h2⟩
    rw [upd_ne fun z => ?_]
    · exact h1
    · obtain ⟨us, hu⟩ := hl
      rw [z, hu] at h1
      cases h1
/-- the reading of a comprehension -/
theorem lc_of {K : PySem.W.Frag} {it : EvI} {put : D → List Sl → SO} {g : TG} {t : EvT} {e : EvE} {tt : TT} {σ : L2.St} {H : Hp} {Q : VK} (hg : TgS K [] g put) (hp : PutO put) (hw : GW vs g) (ht : ∀ σ H R, tT K (wF w.cl) t σ H R → tt σ H R) (h : tE K w (eLc vs it put t e) σ H Q) :
    tLc (tI K w it) g tt (tE K (wF w.cl) e) vs σ H Q := by
  obtain ⟨Xs, st, rel, h⟩ := h
  unfold eLc at h
  show tI K w it σ H _
  refine ⟨Xs, st, rel, (rdo_bind h).mono (fun ds st1 h1 J H1 C p1 S c => ?_) fun _ _ _ x => x⟩
  split at h1
  · next hc =>
    intro Dl hD
    have hn := noOwn_of hc.1
    cases eL : cLoop vs put t e ds st1 with
    | ex _ _ _ => rw [eL] at h1; exact h1.elim
    | no => rw [eL] at h1; exact h1.elim
    | ok zs stE =>
      rw [eL] at h1
      dsimp only at h1
      split at h1
      · next hlE =>
        have hDh := rel_hid p1.rel hD
        -- the state at a turn: the list at Dl holds rs, what follows gives the rest
        refine ⟨fun i m H' => m = ds.length - i ∧ ∃ stc us rs zr, stc.length = st1.length ∧ noOwn stc vs = true ∧ Rel K (Dl :: Xs) (wipeS stc vs) (wipe σ vs) H' ∧ Ex (vis Xs st1 σ H1) (vis (Dl :: Xs) (wipeS stc vs) (wipe σ vs) H') ∧ (∀ x ∈ Xs, Kp (H1 x) (H' x)) ∧ (∀ a, H' a = none → H1 a = none) ∧ OwLess st1 (wipeS stc vs) ∧
          H' Dl = some (.lst us) ∧ DqAll K (vis (Dl :: Xs) (wipeS stc vs) (wipe σ vs) H') us rs ∧ rs.length ≤ i ∧ cLoop vs put t e (ds.drop i) stc = .ok zr stE ∧ rs ++ zr = zs, ⟨ds.length, ?_⟩, ?_⟩
        · -- the start
          obtain ⟨r2, e2⟩ := rel_wipe (vs := vs) (τ := wipe σ vs) p1.rel hn (wipe_length σ vs).symm (fun i hi => (wipe_get hi).symm)
          have vn := val_newL (vs := []) (ds := []) r2 hD .nil
          obtain ⟨q, us, es, k1, k2, k3, k4, k5, k6⟩ := vn.fr rfl
          cases k1
          have pn := rel_new (o := .lst []) r2 hD
          refine ⟨rfl, st1, [], [], zs, rfl, hc.1, k6, ?_, fun x hx => .inl (upd_ne fun z => p1.rel.xs.ne x hx (by rw [z]; exact hD)), fun a ha => ?_, fun i es hi => ?_, upd_same, .nil, Nat.le_refl _, by rw [List.drop_zero]; exact eL, rfl⟩
          · rw [← e2]
            exact ex_hide (L := [Dl]) pn.ex fun x hx => by rw [List.mem_singleton.mp hx]; exact hD
          · exact pn.dom a ha
          · by_cases hm : i ∈ vs
            · have hlt : i < st1.length := by have := (List.getElem?_eq_some_iff.mp hi).1; rw [wipeS_len] at this; exact this
              rw [wipeS_in hm hlt] at hi; cases hi
            · rw [wipeS_get hm] at hi; exact ⟨es, hi⟩
        · rintro i m H' ⟨hm, stc, us, rs, zr, hl, hno, r', ex', xs', dm', ol', hD', dq', hrs, eC, eR⟩
          by_cases hi : i < ds.length
          · right
            have cM : C (vis (Dl :: Xs) (wipeS stc vs) (wipe σ vs) H') := S.mono _ _ ex' c
            refine ⟨S.go i H' _ msk_ex cM hi, fun H2 => ds.length - (i + 1) = ds.length - (i + 1) ∧ ∃ stc us rs zr, stc.length = st1.length ∧ noOwn stc vs = true ∧ Rel K (Dl :: Xs) (wipeS stc vs) (wipe σ vs) H2 ∧ Ex (vis Xs st1 σ H1) (vis (Dl :: Xs) (wipeS stc vs) (wipe σ vs) H2) ∧ (∀ x ∈ Xs, Kp (H1 x) (H2 x)) ∧ (∀ a, H2 a = none → H1 a = none) ∧ OwLess st1 (wipeS stc vs) ∧
              H2 Dl = some (.lst us) ∧ DqAll K (vis (Dl :: Xs) (wipeS stc vs) (wipe σ vs) H2) us rs ∧ rs.length ≤ i + 1 ∧ cLoop vs put t e (ds.drop (i + 1)) stc = .ok zr stE ∧ rs ++ zr = zs, fun H2 q => ⟨_, by omega, q⟩, fun x H2 hy => ?_⟩
            have hd : ds[i]? = some ds[i] := List.getElem?_eq_getElem hi
            obtain ⟨q1, q2⟩ := S.yld (Dl :: Xs) (wipeS stc vs) (wipe σ vs) i H' x H2 ds[i] r' cM hd hy
            rw [List.drop_eq_getElem_cons hi] at eC
            unfold cLoop at eC
            have hput : put ds[i] (wipeS stc vs) ≠ .no := fun z => by rw [z] at eC; cases eC
            obtain ⟨s1, e1, o1⟩ := hp _ _ hput
            rw [e1] at eC
            dsimp only at eC
            have R0 : RelS K (Dl :: Xs) [] (fun _ => none) (wipeS stc vs) (wipe σ vs) H2 := ⟨q1.rel, fun _ _ _ _ _ _ => rfl, fun _ _ => rfl⟩
            have DlX : Dl ∈ Dl :: Xs := List.mem_cons_self
            -- what a turn leaves, in a state of the target's
            have step : ∀ {s3 : List Sl} {σ2 : L2.St} {H3 H4 : Hp}, PostS K (Dl :: Xs) [] (fun _ => none) (wipeS stc vs) (wipe σ vs) H2 s1 σ2 H3 → wipe σ2 vs = wipe σ vs → Post K (Dl :: Xs) s1 σ2 H3 s3 H4 → noOwn s3 vs = true →
                Rel K (Dl :: Xs) (wipeS s3 vs) (wipe σ vs) H4 ∧ vis (Dl :: Xs) (wipeS s3 vs) (wipe σ vs) H4 = vis (Dl :: Xs) s3 σ2 H4 ∧ Ex (vis (Dl :: Xs) (wipeS stc vs) (wipe σ vs) H') (vis (Dl :: Xs) (wipeS s3 vs) (wipe σ vs) H4) ∧ s3.length = st1.length ∧ OwLess st1 (wipeS s3 vs) ∧ (∀ x ∈ Xs, Kp (H1 x) (H4 x)) ∧ (∀ a, H4 a = none → H1 a = none) ∧ H4 Dl = some (.lst us) := fun {s3 σ2 H3 H4} a1 a2 a3 a4 => by
              have hl2 : σ2.length = (wipe σ vs).length := by rw [← a2, wipe_length]
              obtain ⟨b1, b2⟩ := rel_wipe (vs := vs) (τ := wipe σ vs) a3.rel (noOwn_of a4) hl2 (fun j hj => by rw [← a2, wipe_get hj])
              refine ⟨b1, b2, by rw [b2]; exact (q1.ex.trans a1.ex).trans a3.ex, ?_, fun j es hj => ?_, fun y hy => ?_, fun a ha => dm' a (q1.dom a (a1.dom a (a3.dom a ha))), ?_⟩
              · have := a3.rel.len
                rw [this, hl2, ← r'.len, wipeS_len, hl]
              · -- owned lists were owned
                by_cases hm2 : j ∈ vs
                · have hlt : j < s3.length := by have := (List.getElem?_eq_some_iff.mp hj).1; rw [wipeS_len] at this; exact this
                  rw [wipeS_in hm2 hlt] at hj; cases hj
                · rw [wipeS_get hm2] at hj
                  obtain ⟨es2, k2⟩ := a3.ol j es hj
                  obtain ⟨es3, k3⟩ := o1 j es2 k2
                  exact ol' j es3 k3
              · exact (xs' y hy).trans ((q1.xs y (List.mem_cons_of_mem _ hy)).trans ((a1.xs y (List.mem_cons_of_mem _ hy)).trans (a3.xs y (List.mem_cons_of_mem _ hy))))
              · have l1 := ((q1.xs Dl DlX).lst hD').trans hD'
                have l2 := ((a1.xs Dl DlX).lst l1).trans l1
                exact ((a3.xs Dl DlX).lst l2).trans l2
            have hwp : wipe (wipe σ vs) vs = wipe σ vs := wipe_wipe
            have hsz : us.length < sizeLine := by
              have h1 := dpAll_len dq'
              have h2 := hc.2
              unfold sizeLine
              omega
            refine hw x (wipe σ vs) H2 _ hwp (hg w (Dl :: Xs) (fun _ => none) (wipeS stc vs) (wipe σ vs) H2 ⟨fun σ2 H3 => wipe σ2 vs = wipe σ vs → _, fun _ _ => True, fun _ _ => True, fun _ _ => True⟩ x ds[i] R0 q2 ?_)
            rw [e1]
            intro σ2 H3 a1 a2
            refine ht σ2 H3 _ ⟨Dl :: Xs, s1, a1.rel.rel, ?_⟩
            cases et : t s1 with
            | ex _ _ _ => rw [et] at eC; cases eC
            | no => rw [et] at eC; cases eC
            | ok b s2 =>
              rw [et] at eC
              intro H4 p2
              cases b with
              | false =>
                rw [if_neg (by simp)]
                dsimp only at eC
                split at eC
                · next a4 =>
                  obtain ⟨b1, b2, b3, b4, b5, b6, b7, b8⟩ := step a1 a2 p2 a4
                  exact ⟨rfl, s2, us, rs, zr, b4, a4, b1, ex'.trans b3, b6, b7, b5, b8, dpAll_mono b3 dq', by omega, eC, eR⟩
                · cases eC
              | true =>
                rw [if_pos rfl]
                dsimp only at eC
                refine ⟨Dl :: Xs, s2, p2.rel, ?_⟩
                cases ee : e s2 with
                | ex _ _ _ => rw [ee] at eC; cases eC
                | no => rw [ee] at eC; cases eC
                | ok z s3 =>
                  rw [ee] at eC
                  dsimp only at eC
                  intro y H5 p3 v3
                  split at eC
                  · next a4 =>
                    split at eC
                    · next zs' st4 eL' =>
                      cases eC
                      obtain ⟨b1, b2, b3, b4, b5, b6, b7, b8⟩ := step a1 a2 (p2.trans p3) a4
                      obtain ⟨c1, c2⟩ := rel_updH (o := .lst (us ++ [y])) ⟨us, b8⟩ b1
                      refine ⟨us, b8, hsz, rfl, s3, us ++ [y], rs ++ [z.1], zs', b4, a4, c1, by rw [c2]; exact ex'.trans b3, fun q hq => ?_, fun a ha => ?_, b5, upd_same, by rw [c2]; exact dpAll_append (dpAll_mono b3 dq') (.cons (by rw [b2]; exact v3.dp) .nil), by rw [List.length_append]; simp; exact hrs, eL', by rw [List.append_assoc]; exact eR⟩
                      · rw [upd_ne fun z => p1.rel.xs.ne q hq (by rw [z]; exact hD)]; exact b6 q hq
                      · by_cases e : a = Dl
                        · rw [e]; exact hD
                        · rw [upd_ne e] at ha; exact b7 a ha
                    · cases eC
                  · cases eC
          · left
            have ed : ds.drop i = [] := List.drop_eq_nil_of_le (by omega)
            rw [ed] at eC
            have eC' : (O.ok [] stc : O (List D)) = .ok zr stE := eC
            cases eC'
            rw [List.append_nil] at eR
            subst eR
            refine ⟨S.stop i H' _ msk_ex (S.mono _ _ ex' c) (by omega), ?_⟩
            obtain ⟨q, us0, es0, k1, k2, k3, k4, k5, k6⟩ := (val_newL (vs := []) (ds := []) p1.rel hD .nil).fr rfl
            cases k1
            have e0 : Ex (vis (Dl :: Xs) st1 σ (upd H1 Dl (.lst []))) (vis Xs st1 σ H1) := by
              rw [(show vis (Dl :: Xs) st1 σ (upd H1 Dl (.lst [])) = vis (Dl :: Xs) st1 σ H1 from msk_upd (List.mem_append_right _ List.mem_cons_self))]
              exact msk_sub fun a ha => by
                rcases List.mem_append.mp ha with ha | ha
                · exact List.mem_append_left _ ha
                · exact List.mem_append_right _ (List.mem_cons_of_mem _ ha)
            obtain ⟨u1, u2⟩ := rel_unwipe k6 hn r' hl (e0.trans ex')
            obtain ⟨t1, t2⟩ := rel_show (L := [Dl]) (fun P hP => (p1.rel.xs.tb P hP).1) u1
            have tp : Post K Xs st1 σ H1 (backS st1 stE vs) H' := ⟨t1, (by rw [← u2] at ex'; exact ex'.trans t2), xs', dm', fun j es hj => by
              by_cases hm2 : j ∈ vs
              · have hlt : j < stE.length := by have := (List.getElem?_eq_some_iff.mp hj).1; rw [backS_len] at this; exact this
                rw [backS_in hm2 hlt hl.symm] at hj
                exact ⟨es, hj⟩
              · rw [backS_get hm2] at hj
                exact ol' j es (by rw [wipeS_get hm2]; exact hj)⟩
            have dq2 : DqAll K (vis (Dl :: Xs) (backS st1 stE vs) σ H') us rs := by rw [u2]; exact dq'
            refine h1 (.ref Dl) H' (p1.trans tp) ⟨.lst ?_ (dpAll_mono t2 dq2), fun _ => ⟨Dl, us, rs, rfl, rfl, p1.dom Dl hD, hD', dq2, u1⟩⟩
            have hh : Dl ∉ hid Xs (backS st1 stE vs) σ := fun z => by
              have := u1.nd
              rw [show hid (Dl :: Xs) (backS st1 stE vs) σ = ownd (backS st1 stE vs) σ ++ Dl :: Xs from rfl] at this
              exact (List.nodup_cons.mp (List.perm_middle.nodup_iff.mp this)).1 z
            show msk _ H' Dl = _
            rw [msk_out hh]
            exact hD'
      · exact h1.elim
  · exact h1.elim

variable {elt tg iter : Expr} {scope : Scope} {own : List (Str × Nat)} {pos : Pos} {it : EvI} {g : TG} {put : D → List Sl → SO} {t : EvT} {e : EvE}
theorem x_lc (hc : X.calm = true) (hN : X.N.Nodup) (hi : PI X tg iter (tI X.K w it)) (ok : BlkOk X.N X.env.scope scope own) (hw : GW (own.map (·.2)) g) (hgS : TgS X.K [] g put) (hp : PutO put)
    (hg : ∀ (s : Shared) (H : Hp) (C : Addr) (cl : List (Str × Addr)) (fp : List Addr), PG (X.blk s H scope (compEnvC scope cl C X.env) fp) tg g)
    (he : ∀ (s : Shared) (H : Hp) (C : Addr) (cl : List (Str × Addr)) (fp : List Addr), PE (X.blk s H scope (compEnvC scope cl C X.env) fp) elt (tE X.K (wF w.cl) e)) (hs : ∀ x, foldedSetIterable iter X.env x = pure x := by intro _; rfl) :
    PE X (.ListComp elt [⟨tg, iter, [], 0⟩] scope pos) (tE X.K w (eLc (own.map (·.2)) it put tTrue e)) :=
  PE.of (pe_lc hc hN hi ok hg (fun _ _ _ _ _ => pts_nil) he hs) fun σ H Q h => lc_of hgS hp hw (fun σ H R q => by
    obtain ⟨Xs, st, rel, q⟩ := q
    exact q H (Post.refl rel)) h
theorem x_lcIf {c : Expr} (hc : X.calm = true) (hN : X.N.Nodup) (hi : PI X tg iter (tI X.K w it)) (ok : BlkOk X.N X.env.scope scope own) (hw : GW (own.map (·.2)) g) (hgS : TgS X.K [] g put) (hp : PutO put)
    (hg : ∀ (s : Shared) (H : Hp) (C : Addr) (cl : List (Str × Addr)) (fp : List Addr), PG (X.blk s H scope (compEnvC scope cl C X.env) fp) tg g)
    (ht : ∀ (s : Shared) (H : Hp) (C : Addr) (cl : List (Str × Addr)) (fp : List Addr), PT (X.blk s H scope (compEnvC scope cl C X.env) fp) c (tT X.K (wF w.cl) t))
    (he : ∀ (s : Shared) (H : Hp) (C : Addr) (cl : List (Str × Addr)) (fp : List Addr), PE (X.blk s H scope (compEnvC scope cl C X.env) fp) elt (tE X.K (wF w.cl) e)) (hs : ∀ x, foldedSetIterable iter X.env x = pure x := by intro _; rfl) :
    PE X (.ListComp elt [⟨tg, iter, [c], 0⟩] scope pos) (tE X.K w (eLc (own.map (·.2)) it put t e)) :=
  PE.of (pe_lc hc hN hi ok hg (fun s H C cl fp => pts_one (ht s H C cl fp)) he hs) fun σ H Q h => lc_of hgS hp hw (fun σ H R q => q) h
theorem set_of {P : List Nat} {i : Nat} {ev : EvE} {Dn : Ends} {σ : L2.St} {H : Hp} (h : tS X.K w P (sSet P i ev) Dn σ H) : tAsg (tE X.K w ev) (gName i) Dn σ H := by
  obtain ⟨Xs, B, st, r, h⟩ := h
  exact tE_S r h fun v H1 z st1 p1 _ v1 h1 => put_of r p1 v1 h1
theorem xs_setLc {P : List Nat} (i : Nat) {y : Str} {py spos : Pos} (hc : X.calm = true) (hN : X.N.Nodup) (hi : PI X tg iter (tI X.K w it)) (ok : BlkOk X.N X.env.scope scope own) (hw : GW (own.map (·.2)) g) (hgS : TgS X.K [] g put) (hp : PutO put)
    (hg : ∀ (s : Shared) (H : Hp) (C : Addr) (cl : List (Str × Addr)) (fp : List Addr), PG (X.blk s H scope (compEnvC scope cl C X.env) fp) tg g)
    (he : ∀ (s : Shared) (H : Hp) (C : Addr) (cl : List (Str × Addr)) (fp : List Addr), PE (X.blk s H scope (compEnvC scope cl C X.env) fp) elt (tE X.K (wF w.cl) e)) (hy : X.N[i]? = some y := by rfl) (hyl : X.env.scope.names.lookup y = some .local := by rfl)
    (hsw : swapsWith (.ListComp elt [⟨tg, iter, [], 0⟩] scope pos) (some (.Name y py)) spos.line X.env = pure true := by rfl) (hs : ∀ x, foldedSetIterable iter X.env x = pure x := by intro _; rfl) :
    PS X (.Assign [.Name y py] (.ListComp elt [⟨tg, iter, [], 0⟩] scope pos) spos) (tS X.K w P (sSet P i (eLc (own.map (·.2)) it put tTrue e))) :=
  PS.of (ps_setLc hc hN hy hyl hsw hi ok hg (fun _ _ _ _ _ => pts_nil) he hs) fun Dn σ H h => by
    have h2 : tE X.K w (eLc (own.map (·.2)) it put tTrue e) σ H (fun v H1 => gName i v σ H1 Dn.nx) := set_of h
    exact lc_of hgS hp hw (fun σ H R q => by
      obtain ⟨Xs, st, rel, q⟩ := q
      exact q H (Post.refl rel)) h2
theorem xs_setLcIf {P : List Nat} (i : Nat) {y : Str} {py spos : Pos} {c : Expr} (hc : X.calm = true) (hN : X.N.Nodup) (hi : PI X tg iter (tI X.K w it)) (ok : BlkOk X.N X.env.scope scope own) (hw : GW (own.map (·.2)) g) (hgS : TgS X.K [] g put) (hp : PutO put)
    (hg : ∀ (s : Shared) (H : Hp) (C : Addr) (cl : List (Str × Addr)) (fp : List Addr), PG (X.blk s H scope (compEnvC scope cl C X.env) fp) tg g)
    (ht : ∀ (s : Shared) (H : Hp) (C : Addr) (cl : List (Str × Addr)) (fp : List Addr), PT (X.blk s H scope (compEnvC scope cl C X.env) fp) c (tT X.K (wF w.cl) t))
    (he : ∀ (s : Shared) (H : Hp) (C : Addr) (cl : List (Str × Addr)) (fp : List Addr), PE (X.blk s H scope (compEnvC scope cl C X.env) fp) elt (tE X.K (wF w.cl) e)) (hy : X.N[i]? = some y := by rfl) (hyl : X.env.scope.names.lookup y = some .local := by rfl)
    (hsw : swapsWith (.ListComp elt [⟨tg, iter, [c], 0⟩] scope pos) (some (.Name y py)) spos.line X.env = pure true := by rfl) (hs : ∀ x, foldedSetIterable iter X.env x = pure x := by intro _; rfl) :
    PS X (.Assign [.Name y py] (.ListComp elt [⟨tg, iter, [c], 0⟩] scope pos) spos) (tS X.K w P (sSet P i (eLc (own.map (·.2)) it put t e))) :=
  PS.of (ps_setLc hc hN hy hyl hsw hi ok hg (fun s H C cl fp => pts_one (ht s H C cl fp)) he hs) fun Dn σ H h => by
    have h2 : tE X.K w (eLc (own.map (·.2)) it put t e) σ H (fun v H1 => gName i v σ H1 Dn.nx) := set_of h
    exact lc_of hgS hp hw (fun σ H R q => q) h2
end
end TX

end

section
set_option Elab.async false
set_option linter.all false
set_option maxRecDepth 100000
set_option maxHeartbeats 2000000
namespace TX
open PySem L2 Evl PyProof.Rows

theorem Room.u64 {k : Nat} {A : Around} (r : Room k A) : A.units + 64 < cLine := by have := r.un; omega
theorem Room.u65 {k : Nat} {A : Around} (r : Room k A) : A.units + 65 < cLine := by have := r.un; omega
section
variable {P : Program} {w : World} {K : PySem.W.Frag} {mg : Str → Option Value} {base : Heap}
/-- a def keeps the promise that its body's run tells -/
theorem def_okD {x qual : Str} {params : Arguments} {body : List Stmt} {scope : Scope} {f : Addr} {fd : FuncData} {N ps : List Str} {k : Nat} {cl : Nat → Addr} {Ps : List Nat} {eb : EvS} (F : FunD K x qual params body scope [] [] f fd) (S : FnScope N ps scope)
    (hb : ∀ (cdv : Value) (A : Around) (outer : List Env) (s : Shared) (H : Hp) (E : XK), Room k (A.deeper (envOfC qual scope s.heap.objs.size f cdv)) →
      PSs (cxOf (L2.CX P w) P w K mg base N qual scope f cdv A outer s H E) body (tS K ⟨fun c dx _ H' => E c dx H', cl⟩ Ps eb)) :
    FnOk P w K mg base (L2.CX P w) (k + 1) f fd ps (spF K cl (defEv N.length ps.length Ps eb)) :=
  F.ok S (fun vs H Q E h => spF_len h) fun cdv A outer s H vs Q E hr h => ⟨_, hb cdv A outer s H E hr, def_reads h⟩
end
/-! ### a, b, c = x, y, z -/
def sPar3 (P : List Nat) (i j l : Nat) (a : EvA) : EvS := fun st => (a st).toS fun ds st1 => match ds with
  | [d, e, g] => if i ∈ P ∨ j ∈ P ∨ l ∈ P then .no else .nx (((st1.set i (.pu d)).set j (.pu e)).set l (.pu g))
  | _ => .no
section
variable {X : Cx} {w : Wi} {P : List Nat} {pos : Pos}
theorem xs_par3 (i j l : Nat) {x y z : Str} {a b c : Expr} {ev : EvA} {px py pz pt : Pos} {kt k2 : Nat} {pt2 : Pos} (ha : PA X [a, b, c] (tA X.K w ev)) (hc : X.calm = true) (hN : X.N.Nodup) (hi : X.N[i]? = some x := by rfl) (hj : X.N[j]? = some y := by rfl) (hl : X.N[l]? = some z := by rfl) (hij : i ≠ j := by decide) (hil : i ≠ l := by decide) (hjl : j ≠ l := by decide)
    (hx : X.env.scope.names.lookup x = some .local := by rfl) (hy : X.env.scope.names.lookup y = some .local := by rfl) (hz : X.env.scope.names.lookup z = some .local := by rfl)
    (hw : swappedStores [.Tuple [.Name x px, .Name y py, .Name z pz] kt pt] (.Tuple [a, b, c] k2 pt2) X.env = pure (some [x, y, z]) := by rfl)
    (hs : swapsWithSole [.Tuple [.Name x px, .Name y py, .Name z pz] kt pt] (.Tuple [a, b, c] k2 pt2) pos.line X.env = pure false := by rfl) :
    PS X (.Assign [.Tuple [.Name x px, .Name y py, .Name z pz] kt pt] (.Tuple [a, b, c] k2 pt2) pos) (tS X.K w P (sPar3 P i j l ev)) :=
  PS.of (ps_par3 hc hN hi hj hl hij hil hjl hx hy hz ha hw hs) fun Dn σ H h => by
    obtain ⟨Xs, B, st, r, h⟩ := h
    refine tA_S r h fun vs H1 ds st1 p1 p q h1 => ?_
    split at h1
    · next d e g =>
      split at h1
      · exact h1.elim
      · next hc =>
        cases q with
        | cons q1 q2 =>
          cases q2 with
          | cons q2 q3 =>
            cases q3 with
            | cons q3 q4 =>
              cases q4
              have s1 := relS_set p.rel (i := i) (fun z => hc (.inl z)) (.inr ⟨d, rfl, q1⟩)
              have s2 := relS_set s1.rel (i := j) (fun z => hc (.inr (.inl z))) (.inr ⟨e, rfl, dp_mono s1.ex q2⟩)
              have s3 := relS_set s2.rel (i := l) (fun z => hc (.inr (.inr z))) (.inr ⟨g, rfl, dp_mono (s1.ex.trans s2.ex) q3⟩)
              exact ⟨_, _, _, rfl, h1 _ _ (((p.trans s1).trans s2).trans s3)⟩
    · exact h1.elim
end
/-! ### a named list beside a value, not let go -/
def eBinV (f : D → D → Option R1) (i : Nat) (b : EvE) : EvE := fun st => match slD st[i]? with
  | none => .no
  | some _ => (b st).bind fun y st1 => match slD st1[i]? with
    | none => .no
    | some d => match f d y.1 with
      | some z => .ok z st1
      | none => .no
/-- a rule that takes an owned list on the left -/
def OpV (K : PySem.W.Frag) (r : R2) (f : D → D → Option R1) : Prop := ∀ (Xs : List Addr) (st : List Sl) (σ : L2.St) (H : Hp) (x y : V) (dx dy : D) (z : R1) (Q : VK), Rel K Xs st σ H → Bq K Xs st σ H x dx → Dq K (vis Xs st σ H) y dy → f dx dy = some z →
  (∀ v H', Post K Xs st σ H st H' → Val K Xs σ H st H' v z → Q v H') → r x y H Q
theorem tOpV_of {K : PySem.W.Frag} {w : Wi} {r : R2} {f : D → D → Option R1} {i : Nat} {eb : EvE} (ho : OpV K r f) {σ : L2.St} {H : Hp} {Q : VK} (h : tE K w (eBinV f i eb) σ H Q) : tOp r (tVar i) (tE K w eb) σ H Q := by
  obtain ⟨Xs, st, rel, h⟩ := h
  unfold eBinV at h
  split at h
  · exact h.elim
  · next d0 e0 =>
    obtain ⟨v, ev, _⟩ := slD_at rel e0
    refine ⟨v, ev, tE_seq rel h fun y H1 ry st1 p1 v1 h1 => ?_⟩
    split at h1
    · exact h1.elim
    · next d e1 =>
      split at h1
      · next z ez =>
        obtain ⟨v', ev', hv'⟩ := slD_at p1.rel e1
        have evv : v' = v := by rw [ev] at ev'; cases ev'; rfl
        subst evv
        exact ho Xs st1 σ H1 v' y d ry.1 z Q p1.rel hv' v1.dp ez fun u H2 p2 v2 => h1 u H2 (p1.trans p2) (.of p1 v2)
      · exact h1.elim
section
variable {K : PySem.W.Frag}
theorem bq_full {Xs : List Addr} {st : List Sl} {σ : L2.St} {H : Hp} {x : V} {d : D} (h : Bq K Xs st σ H x d) : Dq K H x d := by
  rcases h with h | ⟨p, vs, ds, rfl, rfl, h1, h2⟩
  · exact dp_mono msk_ex h
  · exact .lst h1 (dpAll_mono msk_ex h2)
theorem opv_eq : OpV K (rEqD K) (fEq true) := by
  intro Xs st σ H x y dx dy z Q rel hx hy hz hq
  unfold fEq at hz
  split at hz
  · next h =>
    cases hz
    rw [Bool.and_eq_true] at h
    refine ⟨dx.toP, dy.toP, (bq_full hx).dp (SeqAt.canLay_of_shaped h.1), (dp_mono msk_ex hy).dp (SeqAt.canLay_of_shaped h.2), h.1, h.2, hq _ H (Post.refl rel) (.old ?_)⟩
    show Dq K _ (V.bl _) (D.bl (PyData.eqv dx.toP dy.toP == true))
    rw [b_true]
    exact .bl _
  · cases hz
theorem opv_ne : OpV K (rNeD K) (fEq false) := by
  intro Xs st σ H x y dx dy z Q rel hx hy hz hq
  unfold fEq at hz
  split at hz
  · next h =>
    cases hz
    rw [Bool.and_eq_true] at h
    refine ⟨dx.toP, dy.toP, (bq_full hx).dp (SeqAt.canLay_of_shaped h.1), (dp_mono msk_ex hy).dp (SeqAt.canLay_of_shaped h.2), h.1, h.2, hq _ H (Post.refl rel) (.old ?_)⟩
    show Dq K _ (V.bl _) (D.bl (PyData.eqv dx.toP dy.toP == false))
    rw [b_false]
    exact .bl _
  · cases hz
end
section
variable {X : Cx} {w : Wi} {pos apos : Pos} {b : Expr} {eb : EvE} {x : Str}
theorem x_eqV (i : Nat) (hu : X.A.units + 64 < cLine) (hb : PE X b (tE X.K w eb)) (hN : X.N[i]? = some x := by rfl) (hv : Vis X.env.scope x := by first | exact Or.inl rfl | exact Or.inr (Or.inl rfl) | exact Or.inr (Or.inr rfl)) (hd : (x == ("__debug__" : Str)) = false := by decide) (hcd : (x == ("__classdict__" : Str)) = false := by decide) (hm : behindInMarks .Eq b = false := by first | exact nomark _ | rfl) :
    PE X (.Compare (.Name x apos) [.Eq] [b] pos) (tE X.K w (eBinV (fEq true) i eb)) := PE.of (pe_cmpR (op_eqD hu) (pe_var hN hv hd hcd) hb hm) fun σ H Q h => tOpV_of opv_eq h
theorem x_neV (i : Nat) (hu : X.A.units + 64 < cLine) (hb : PE X b (tE X.K w eb)) (hN : X.N[i]? = some x := by rfl) (hv : Vis X.env.scope x := by first | exact Or.inl rfl | exact Or.inr (Or.inl rfl) | exact Or.inr (Or.inr rfl)) (hd : (x == ("__debug__" : Str)) = false := by decide) (hcd : (x == ("__classdict__" : Str)) = false := by decide) (hm : behindInMarks .NotEq b = false := by first | exact nomark _ | rfl) :
    PE X (.Compare (.Name x apos) [.NotEq] [b] pos) (tE X.K w (eBinV (fEq false) i eb)) := PE.of (pe_cmpR (op_neD hu) (pe_var hN hv hd hcd) hb hm) fun σ H Q h => tOpV_of opv_ne h
theorem xt_cmpV {r : R2} {f : D → D → Option R1} {op : CmpOp} (i : Nat) (ho : OpR X (compareOp op) r) (hs : OpV X.K r f) (hb : PE X b (tE X.K w eb)) (hm : behindInMarks op b = false) (hN : X.N[i]? = some x) (hv : Vis X.env.scope x) (hd : (x == ("__debug__" : Str)) = false) (hcd : (x == ("__classdict__" : Str)) = false) :
    PT X (.Compare (.Name x apos) [op] [b] pos) (tT X.K w (tOf (eBinV f i eb))) := PT.of (pt_cmpR ho (pe_var hN hv hd hcd) hb hm) fun σ H Q h => by
  obtain ⟨Xs, st, rel, h⟩ := h
  show tOp r (tVar i) (tE X.K w eb) σ H _
  refine tOpV_of hs (tE_seq rel h fun x H1 rx st1 p1 v1 h1 => ?_)
  split at h1
  · next c ec =>
    have dp := v1.dp
    rw [bool?_of ec] at dp
    cases dp
    exact ⟨c, rfl, h1 H1 p1⟩
  · exact h1.elim
theorem xt_eqV (i : Nat) (hu : X.A.units + 64 < cLine) (hb : PE X b (tE X.K w eb)) (hN : X.N[i]? = some x := by rfl) (hv : Vis X.env.scope x := by first | exact Or.inl rfl | exact Or.inr (Or.inl rfl) | exact Or.inr (Or.inr rfl)) (hd : (x == ("__debug__" : Str)) = false := by decide) (hcd : (x == ("__classdict__" : Str)) = false := by decide) :
    PT X (.Compare (.Name x apos) [.Eq] [b] pos) (tT X.K w (tOf (eBinV (fEq true) i eb))) := xt_cmpV i (op_eqD hu) opv_eq hb (nomark _) hN hv hd hcd
theorem xt_neV (i : Nat) (hu : X.A.units + 64 < cLine) (hb : PE X b (tE X.K w eb)) (hN : X.N[i]? = some x := by rfl) (hv : Vis X.env.scope x := by first | exact Or.inl rfl | exact Or.inr (Or.inl rfl) | exact Or.inr (Or.inr rfl)) (hd : (x == ("__debug__" : Str)) = false := by decide) (hcd : (x == ("__classdict__" : Str)) = false := by decide) :
    PT X (.Compare (.Name x apos) [.NotEq] [b] pos) (tT X.K w (tOf (eBinV (fEq false) i eb))) := xt_cmpV i (op_neD hu) opv_ne hb (nomark _) hN hv hd hcd
end
end TX
namespace TX
open PySem L2 Evl PyProof.Rows
theorem names_g {X : Cx} {x : Str} {c : Value} (h : X.mg x = some c) (hg : Gl X x := by rfl) (hd : (x == ("__debug__" : Str)) = false := by decide) : Names X x c := ⟨hg, hd, .inl h⟩
theorem fn_no {P : Program} {w : World} {K : PySem.W.Frag} {mg : Str → Option Value} {base : Heap} {k : Nat} {f : Addr} {fd : FuncData} {ps : List Str} {cl : Nat → Addr} : FnOk P w K mg base (L2.CX P w) k f fd ps (spF K cl fun _ => .no) where
  len := fun vs H Q E h => by obtain ⟨Xs, st, rel, h⟩ := h; exact h.elim
  run := fun A outer s H args us vs Q E _ _ _ _ h => by obtain ⟨Xs, st, rel, h⟩ := h; exact h.elim
theorem kwb_of {K : PySem.W.Frag} {x qual : Str} {params : Arguments} {body : List Stmt} {scope : Scope} {f : Addr} {fd : FuncData} {ps ks : List Str} {n : Nat} {pm : {α : Type} → List α → List α} (F : FunD K x qual params body scope [] [] f fd)
    (h : ∀ (kV doc pm' : Value) (an : Option Addr) (cdv ct : Value) (us ws : List Value), us.length = n → ws.length = ks.length → bindArgs (PySem.W.fnOf x qual params body scope .none kV doc pm' an cdv ct) ⟨us, ks.zip ws⟩ = pure (ps.zip (pm (us ++ ws))))
    (h2 : ∀ {α β : Type} (R : α → β → Prop) (as : List α) (bs : List β), as.length = n + ks.length → Paired R as bs → Paired R (pm as) (pm bs))
    (h3 : ∀ (K : PySem.W.Frag) (H : Hp) (vs : List V) (ds : List D), vs.length = n + ks.length → DqAll K H vs ds → DqAll K H (pm vs) (pm ds)) : KwB fd ps ks n pm := by
  obtain ⟨oc, od, dV, kV, doc, pm', an, cdv, ct, osl, rfl, lk, hcd, hD, hK⟩ := F.ex
  rcases hD with ⟨_, rfl⟩ | ⟨e, _⟩
  · exact ⟨fun s us ws h1 h2 => .of_eq (h kV doc pm' an cdv ct us ws h1 h2), h2, h3⟩
  · exact absurd rfl e
end TX

end

section
set_option Elab.async false
set_option linter.all false
set_option maxRecDepth 100000
set_option maxHeartbeats 2000000
namespace TX
open PySem L2 PyProof.Rows
open PySem.W (Frag findIn typeIn keepIn subIn hasDictIn exmOne nsIn)

/-! ### what the head is asked: a check of the heap behind the top, and the defs' objects -/
def obsX (chk : Frag → Bool) (fn : List He.DefD) (K : Frag) : He.AlD := (chk K && fn.all fun d => d.ok K, fn.map fun d => He.fnW K d.at_)
def SaysX (chk : Frag → Bool) (fn : List He.DefD) (K : Frag) : Prop := obsX chk fn K = He.valD fn
def obsXG (n : Nat) (chk : Frag → Bool) (fn : List He.DefD) (g : Addr → Option Obj) : He.AlD := obsX chk fn (He.frG g (He.asD g n))
def hookX (n : Nat) (chk : Frag → Bool) (fn : List He.DefD) : PySem.W.Hook where
  α := He.AlD
  obs := fun s => obsXG n chk fn s.heap.get?
  val := fun _ => He.valD fn
  says := fun _ h => ∃ K : Frag, K.In h ∧ SaysX chk fn K
  of := fun _ _ e => ⟨_, He.frG_in, e⟩
  keeps := fun _ _ _ ⟨K, hK, c⟩ k => ⟨K, PySem.W.Frag.In.keeps hK k, c⟩
theorem obsXG_eq {n : Nat} {chk : Frag → Bool} {fn : List He.DefD} {g : Addr → Option Obj} {s : Shared} (h : ∀ a, g a = s.heap.get? a) : obsXG n chk fn g = (hookX n chk fn).obs s := by
  obtain rfl : g = s.heap.get? := funext h
  rfl
section
variable {ck : Frag → Bool} {fn : List He.DefD} {K : Frag}
theorem SaysX.chk (c : SaysX ck fn K) : ck K = true := (Bool.and_eq_true_iff.mp (congrArg (fun z : He.AlD => z.1) c : (ck K && fn.all fun d => d.ok K) = true)).1
/-- the same of defs alone -/
theorem SaysX.d (c : SaysX ck fn K) : He.SaysD [] fn K := by
  have h1 := (Bool.and_eq_true_iff.mp (congrArg (fun z : He.AlD => z.1) c : (TX.obsX ck fn K).1 = true)).2
  have h2 : (TX.obsX ck fn K).2 = (He.valD fn).2 := congrArg (fun z : He.AlD => z.2) c
  show He.obsD [] fn K = He.valD fn
  unfold He.obsD
  refine Prod.ext ?_ h2
  show (([] : List He.Fa).all (fun f => f.ok K) && fn.all fun d => d.ok K) = true
  rw [h1]
  rfl
theorem SaysX.def_ (c : SaysX ck fn K) (i : Nat) {d : He.DefD} (h : fn[i]? = some d := by rfl) : ∃ fd, FunD K d.name d.qual d.params d.body d.scope (d.dvs K) (d.kws K) (He.fAd K d.at_) fd := c.d.def_ i h
end

/-! ### the error classes -/
def isOk (a b : Option (Option Value)) : Bool := decide (a = b)
/-- the class object at C -/
def errObj (K : Frag) (C : Addr) : Bool := match K.lookup C with
  | some o => (match o.cls, o.data with
    | .type t, .cls cd => decide (t = "type") && (match cd.mro with
      | .ref c :: bm => decide (c = C) && HandSPX.refsVE bm
      | _ => false) && (cd.hasDict && !cd.hasDel) && (match o.slots.toList with
      | [_, _, _, _, some (.builtin n), _] => decide (n = "ValueError.__new__")
      | _ => false)
    | _, _ => false)
  | none => false
theorem errObj_ok {K : Frag} {C : Addr} (h : errObj K C = true) : ∃ nm q N bs bm sn sub ab col dd k0 k1 k2 k3 k5, K.lookup C = some (excClassObj nm q C N bs bm true sn sub ab col dd k0 k1 k2 k3 k5 "ValueError.__new__") ∧ HandSPX.refsVE bm = true := by
  unfold errObj at h
  split at h
  · next o e =>
    obtain ⟨oc, od, dt, sl⟩ := o
    split at h
    · next t cd e1 e2 =>
      dsimp only at e1 e2
      subst e1 e2
      simp only [Bool.and_eq_true, decide_eq_true_eq, Bool.not_eq_true'] at h
      obtain ⟨⟨⟨h1, h2⟩, h3, h4⟩, h5⟩ := h
      split at h2
      · next c bm em =>
        simp only [Bool.and_eq_true, decide_eq_true_eq] at h2
        split at h5
        · next a0 a1 a2 a3 n a5 es =>
          obtain ⟨nm, bs, mro, ns, qn, hd, sn, sub, ab, col, del⟩ := cd
          dsimp only at em h3 h4
          have hsl : sl = #[a0, a1, a2, a3, some (.builtin n), a5] := by
            obtain ⟨l⟩ := sl
            exact congrArg Array.mk es
          obtain ⟨h2a, h2b⟩ := h2
          have h5' : n = "ValueError.__new__" := by simpa using h5
          subst h1 em h3 h4 hsl h2a h5'
          exact ⟨nm, qn, ns, bs, bm, sn, sub, ab, col, od, a0, a1, a2, a3, a5, e, h2b⟩
        · cases h5
      · cases h2
    · cases h
  · cases h
/-- what is asked of an error class -/
def errB (K : Frag) (C fI : Addr) : Bool :=
  errObj K C && isOk (findIn K (.ref C) "__setattr__") (some (some (.builtin "object.__setattr__"))) && isOk (findIn K (.ref C) "__getattribute__") (some (some (.builtin "BaseException.__getattribute__"))) &&
  isOk (findIn K (.ref C) "__getattr__") (some none) && isOk (findIn K (.ref C) "value") (some none) && isOk (findIn K (.ref C) "__init__") (some (some (.ref fI))) && decide (typeIn K (.ref fI) = some (.type "function")) &&
  keepIn K (.ref C) && decide (subIn K (.ref C) (.type "BaseException") = some true) && decide (typeIn K (.ref C) = some (.type "type")) && hasDictIn K C && decide (exmOne K (.ref C) (.ref C) = some true)
/-- where the text of __init__ stands -/
def initD (p1 p2 q1 q2 q3 q4 : Pos) : He.DefD := ⟨("TellError", some "__init__"), "__init__", "TellError.__init__", TellX.iA p1 p2, TellX.iB q1 q2 q3 q4, TellX.iS, [], []⟩
theorem errB_ok {K : Frag} {C fI : Addr} {fd : FuncData} {p1 p2 q1 q2 q3 q4 : Pos} (h : errB K C fI = true) (F : FunD K "__init__" "TellError.__init__" (TellX.iA p1 p2) (TellX.iB q1 q2 q3 q4) TellX.iS [] [] fI fd) : TellX.TellTxt K C fI := by
  unfold errB isOk at h
  simp only [Bool.and_eq_true, decide_eq_true_eq] at h
  obtain ⟨⟨⟨⟨⟨⟨⟨⟨⟨⟨⟨h1, h2⟩, h3⟩, h4⟩, h5⟩, h6⟩, h7⟩, h8⟩, h9⟩, h10⟩, h11⟩, h12⟩ := h
  obtain ⟨oc, od, dV, kV, doc, pm, an, cdv, ct, osl, e1, e2, e3, hD, hK⟩ := F.ex
  subst e1
  have hv : dV = .none := by
    rcases hD with ⟨_, e⟩ | ⟨e, _⟩
    · exact e
    · exact absurd rfl e
  subst hv
  exact { cls := errObj_ok h1, sa := h2, ga := h3, gg := h4, noN := h5, iC := h6, tC := h7, kC := h8, exC := h9, tyC := h10, hdC := h11, te := h12, fn := ⟨oc, od, kV, doc, pm, an, cdv, ct, osl, p1, p2, q1, q2, q3, q4, e2, e3⟩ }
end TX

end

section
set_option Elab.async false
set_option linter.all false
set_option maxRecDepth 100000
set_option maxHeartbeats 2000000
namespace TX
open PySem L2 Evl PyProof.Rows

/-! ### the law's own def: it lets nothing out -/
def sp0 (K : PySem.W.Frag) (cl : Nat → Addr) (φ : EvE) : Sp := fun vs H Q _ => spF K cl φ vs H Q fun _ _ _ => False
section
variable {P : Program} {w : World} {K : PySem.W.Frag} {mg : Str → Option Value} {base : Heap}
theorem def_ok0 {x qual : Str} {params : Arguments} {body : List Stmt} {scope : Scope} {f : Addr} {fd : FuncData} {N ps : List Str} {k : Nat} {cl : Nat → Addr} {Ps : List Nat} {eb : EvS} (F : FunD K x qual params body scope [] [] f fd) (S : FnScope N ps scope)
    (hb : ∀ (cdv : Value) (A : Around) (outer : List Env) (s : Shared) (H : Hp) (E : XK), Room k (A.deeper (envOfC qual scope s.heap.objs.size f cdv)) →
      PSs (cxOf CX0 P w K mg base N qual scope f cdv A outer s H E).nox body (tS K (wF cl) Ps eb)) :
    FnOk P w K mg base CX0 (k + 1) f fd ps (sp0 K cl (defEv N.length ps.length Ps eb)) :=
  F.ok S (fun vs H Q E h => spF_len h) fun cdv A outer s H vs Q E hr h => ⟨_, PSs.nox (hb cdv A outer s H E hr), def_reads h⟩
/-- the law's promise from its run -/
theorem law_sp {cl : Nat → Addr} {φ : EvE} {H : Hp} {a : Addr} {ns : List Int} {b : Bool} {st' : List Sl} (h0 : tabs K = []) (hs : SqL K H a (ns.map V.int)) (h : φ [.pu (.scr ns)] = .ok (.bl true, b) st') : sp0 K cl φ [.ref a] H (fun v _ => v = .bl true) fun _ _ _ => False := by
  have ev : vis [] [.pu (.scr ns)] ([V.ref a].map some) H = H := msk_nil
  refine ⟨[], [.pu (.scr ns)], ⟨rfl, by show ([] : List Addr).Nodup; exact .nil, fun i d hi => ?_, fun i ds hi => ?_, ⟨fun x hx => (by cases hx), fun P hP => (by rw [h0] at hP; cases hP)⟩⟩, ?_⟩
  · cases i with
    | zero => cases hi; exact ⟨_, rfl, by rw [ev]; exact .scr hs⟩
    | succ i => simp at hi
  · cases i with
    | zero => cases hi
    | succ i => simp at hi
  · rw [h]
    intro v H' p q
    cases q.dp
    rfl
/-- .. where code objects' tables stand behind the written part -/
theorem law_spT {cl : Nat → Addr} {φ : EvE} {H : Hp} {a : Addr} {ns : List Int} {b : Bool} {st' : List Sl} (hT : ∀ P ∈ tabs K, H P = some (.tbl #[])) (hn : (tabs K).Nodup) (hs : SqL K H a (ns.map V.int)) (h : φ [.pu (.scr ns)] = .ok (.bl true, b) st') : sp0 K cl φ [.ref a] H (fun v _ => v = .bl true) fun _ _ _ => False := by
  have ev : vis (tabs K) [.pu (.scr ns)] ([V.ref a].map some) H = msk (tabs K) H := rfl
  have hs' : SqL K (msk (tabs K) H) a (ns.map V.int) := by
    have nt : ∀ o, H a = some o → (∀ ps, o ≠ .tbl ps) → msk (tabs K) H a = some o := fun o e n => by
      rw [msk_out fun hm => ?_]
      · exact e
      · rw [hT a hm] at e
        cases e
        exact n _ rfl
    rcases hs with (z | ⟨o, z⟩) | z
    · exact .inl (.inl (nt _ z fun ps e => by cases e))
    · exact .inl (.inr ⟨o, nt _ z fun ps e => by cases e⟩)
    · exact .inr z
  refine ⟨tabs K, [.pu (.scr ns)], ⟨rfl, hn, fun i d hi => ?_, fun i ds hi => ?_, ⟨fun x hx => by rw [hT x hx]; simp, fun P hP => ⟨hP, #[], hT P hP, by first | trivial | rfl | (intro q hq; cases hq) | simp [TriplesOk]⟩⟩⟩, ?_⟩
  · cases i with
    | zero => cases hi; exact ⟨_, rfl, by rw [ev]; exact .scr hs'⟩
    | succ i => simp at hi
  · cases i with
    | zero => cases hi
    | succ i => simp at hi
  · rw [h]
    intro v H' p q
    cases q.dp
    rfl
end
end TX
namespace TX
open PySem L2 Evl PyProof.Rows
/-- what isinstance of an instance asks of its class -/
def errI (K : PySem.W.Frag) (C : Addr) : Bool := (PySem.W.clsIn K C).isSome && isOk (PySem.W.findIn K (.ref C) "__class__") (some (some (.builtin "object.__class__"))) && isOk (PySem.W.specialIn K (.builtin "object.__class__") "__get__") (some (some (.builtin "getset_descriptor.__get__"))) &&
  decide (PySem.W.takesIn K (.builtin "object.__class__") = some true) && decide (PySem.W.mroIn K C (.type "object") = some true)
theorem tell_good {K : PySem.W.Frag} {C fI : Addr} (T : PySem.TellX.TellTxt K C fI) (hI : errI K C = true) : GoodC K C := by
  unfold errI isOk at hI
  simp only [Bool.and_eq_true, decide_eq_true_eq] at hI
  obtain ⟨⟨⟨⟨h1, h2⟩, h3⟩, h4⟩, h5⟩ := hI
  exact ⟨T.ga, T.gg, T.exC, T.hdC, T.noN, h1, h2, h3, h4, h5⟩
theorem errK_of {K : PySem.W.Frag} {cl : Nat → Addr} {mt : Nat → Nat → Bool} {n : Nat} (h : ∀ c k, c < n → k < n → PySem.W.exmOne K (.ref (cl c)) (.ref (cl k)) = some (mt c k)) (g : ∀ c, c < n → GoodC K (cl c)) : ErrK K cl mt n := ⟨h, g⟩
end TX
namespace TX
theorem getD_at {α : Type} {l : List α} {d : α} {c : Nat} (h : c < l.length) : l[c]? = some (l.getD c d) := by
  rw [List.getD_eq_getElem?_getD, List.getElem?_eq_getElem h]
  rfl
end TX

end

section
set_option Elab.async false
set_option linter.all false
set_option maxRecDepth 100000
set_option maxHeartbeats 2000000
namespace TX
open PySem L2 Evl PyProof.Rows

/-! ### defs that may show a list's text: they run where nothing is being shown -/
/-- FnOk for such places -/
structure FnG (P : Program) (w : World) (K : PySem.W.Frag) (mg : Str → Option Value) (base : Heap) (CX : CXT) (k : Nat) (f : Addr) (fd : FuncData) (ps : List Str) (sp : Sp) : Prop where
  len : ∀ vs H Q E, sp vs H Q E → vs.length = ps.length
  run : ∀ (A : Around), A.guards = some [] → ∀ (out : List Env) (s : Shared) (H : Hp) (as : Args) (us : List Value) (vs : List V) (Q : VK) (E : XK), Room k A → Env0 P w K mg base A out s H → BindsTo s fd as (ps.zip us) → Vals vs us → sp vs H Q E →
    codeAny (model P w) A (.call (.ref f) as) (CR CX out P w H s Q E) s
theorem FnG.of {P : Program} {w : World} {K : PySem.W.Frag} {mg : Str → Option Value} {base : Heap} {CX : CXT} {k : Nat} {f : Addr} {fd : FuncData} {ps : List Str} {sp : Sp} (F : FnOk P w K mg base CX k f fd ps sp) : FnG P w K mg base CX k f fd ps sp :=
  ⟨F.len, fun A _ out s H as us vs Q E => F.run A out s H as us vs Q E⟩
section
variable {CX : CXT} {P : Program} {w : World} {K : PySem.W.Frag} {mg : Str → Option Value} {base : Heap} {k : Nat} {f : Addr} {x qual : Str} {params : Arguments} {body : List Stmt} {scope : Scope} {fd : FuncData} {N ps : List Str} {sp : Sp}
theorem fng_of (F : FunD K x qual params body scope [] [] f fd) (S : FnScope N ps scope) (len : ∀ vs H Q E, sp vs H Q E → vs.length = ps.length)
    (hb : ∀ (cdv : Value) (A : Around) (out : List Env) (s : Shared) (H : Hp) (vs : List V) (Q : VK) (E : XK), A.guards = some [] → Room k (A.deeper (envOfC qual scope s.heap.objs.size f cdv)) → sp vs H Q E →
      ∃ t, PSs (cxOf CX P w K mg base N qual scope f cdv A out s H E) body t ∧ t { nx := fun _ H' => Q .non H', rt := Q } (L2.start N vs) H) : FnG P w K mg base CX (k + 1) f fd ps sp where
  len := len
  run := by
    intro A hA out s H as us vs Q E room env bind rel promise
    obtain ⟨oc, od, dV, kV, doc, pm, an, cdv, ct, osl, efd, hk, hcode, _, _⟩ := F.ex
    subst efd
    have inK : K.In s.heap := env.mod.kin.keeps fun _ _ q => (env.bs _ _ q).1
    have nolim : s.heap.NoLimit := env.mod.nolimit.keeps fun _ _ q => (env.bs _ _ q).1
    refine codeAny_call_function room.depth (inK _ _ hk) rfl S.co S.gen rfl (PySem.W.codeRec_of inK hcode) (bind _ _ _ _ (wpAny_newFunctionEnv_cells S.kind (fun y hy => ?_) fun env' e' s1 made => ?_))
    · have hm := (List.of_mem_zip (a := y.1) (b := y.2) hy).1
      exact (S.par _ hm).imp id fun q => ⟨q, PySem.W.cellsFrom_some _ _ _ (.inl q)⟩
    · subst e'
      refine ⟨nolim.keeps made.toInCall.keep, codeAny_func ?_⟩
      obtain ⟨t, run, reads⟩ := hb cdv A out s H vs Q E hA (room.deeper _) promise
      refine wpAny_mono (run.run [] s1 _ H _ (inv_start S room.hd env (len _ _ _ _ promise) rel made) reads) (fun fl s' hs => ?_) fun _ _ hs => hs
      have done : ∀ {σ' : L2.St} {H' : Hp} {v : V} {u : Value}, Inv (cxOf CX P w K mg base N qual scope f cdv A out s H E) [] σ' H' s' → RelV v u → Q v H' → CE out P w H s Q u s' := fun {_ H' v _} J rv q => ⟨v, H', J.os, J.bare, J.base, J.hok, rv, q⟩
      cases fl with
      | next => obtain ⟨_, _, J, q⟩ := hs; exact done (v := .non) (u := .none) J rfl q
      | ret u => obtain ⟨_, _, _, J, rv, q⟩ := hs; exact done J rv q
      | brk => obtain ⟨_, _, _, q⟩ := hs; exact q.elim
      | cont => obtain ⟨_, _, _, q⟩ := hs; exact q.elim
theorem def_okG {cl : Nat → Addr} {Ps : List Nat} {eb : EvS} (F : FunD K x qual params body scope [] [] f fd) (S : FnScope N ps scope)
    (hb : ∀ (cdv : Value) (A : Around) (outer : List Env) (s : Shared) (H : Hp) (E : XK), A.guards = some [] → Room k (A.deeper (envOfC qual scope s.heap.objs.size f cdv)) →
      PSs (cxOf (L2.CX P w) P w K mg base N qual scope f cdv A outer s H E) body (tS K ⟨fun c dx _ H' => E c dx H', cl⟩ Ps eb)) :
    FnG P w K mg base (L2.CX P w) (k + 1) f fd ps (spF K cl (defEv N.length ps.length Ps eb)) :=
  fng_of F S (fun vs H Q E h => spF_len h) fun cdv A outer s H vs Q E hA hr h => ⟨_, hb cdv A outer s H E hA hr, def_reads h⟩
theorem def_ok0G {cl : Nat → Addr} {Ps : List Nat} {eb : EvS} (F : FunD K x qual params body scope [] [] f fd) (S : FnScope N ps scope)
    (hb : ∀ (cdv : Value) (A : Around) (outer : List Env) (s : Shared) (H : Hp) (E : XK), A.guards = some [] → Room k (A.deeper (envOfC qual scope s.heap.objs.size f cdv)) →
      PSs (cxOf CX0 P w K mg base N qual scope f cdv A outer s H E).nox body (tS K (wF cl) Ps eb)) :
    FnG P w K mg base CX0 (k + 1) f fd ps (sp0 K cl (defEv N.length ps.length Ps eb)) :=
  fng_of F S (fun vs H Q E h => spF_len h) fun cdv A outer s H vs Q E hA hr h => ⟨_, PSs.nox (hb cdv A outer s H E hA hr), def_reads h⟩
end
section
variable {X : Cx} {w : Wi} {x : Str} {p pos : Pos} {e : Expr} {es : List Expr} {ea : EvA} {ags : List Ag} {k : Nat} {f : Addr} {fd : FuncData} {ps : List Str} {φ : EvE}
/-- f(e, ..) of such a def -/
theorem pe_callG {sp : Sp} {t : TA} (F : FnG X.prog X.w X.K X.mg X.base (L2.CX X.prog X.w) k f fd ps sp) (gd : X.A.guards = some []) (hr : Room k X.A) (hm : X.mg x = some (.ref f)) (hk : PySem.W.keepIn X.K (.ref f) = true) (hb : Binds X.K fd ps []) (tk : Takes X w.W) (ha : PA X (e :: es) t)
    (hg : Gl X x) (hdb : (x == ("__debug__" : Str)) = false) (he : starEach (e :: es) X.env = (false, eval e X.env) :: starEach es X.env) (hpl : (backTo pos (starEach es X.env)).any (·.1) = false) :
    PE X (.Call (.Name x p) (e :: es) [] pos) (tCallS sp (WE w.W) t) := by
  refine ⟨fun pins s σ H Q I h => wpAny_Call_Name_kw (ld_glob I hg hm ?_ hdb)⟩
  refine PySem.W.callWith_K (h₀ := X.base) I.ok.mod.kin hk (thn (ha.run pos pins s σ H _ I h) fun us s1 hs => ?_) he hpl
  obtain ⟨vs, H1, J, rel, q⟩ := hs
  refine ⟨J.kIn, ?_⟩
  have ln : us.length = ps.length := rel.length.symm.trans (F.len _ _ _ _ q)
  have bt := hb s1 us J.kIn (by rw [List.append_nil]; exact ln)
  rw [List.append_nil] at bt
  refine wpAny_call (codeAny_mono (F.run X.A gd X.stack s1 H1 ⟨us, []⟩ us vs Q (WE w.W σ) hr J.env0 bt rel q) fun r s' hq => ?_)
  match r, hq with
  | .error ev, hq => exact passAt tk σ pins H1 s1 ev s' J hq
  | .ok (.ret u), hq => exact J.after hq
  | .ok .next, hq => exact hq.elim
  | .ok .brk, hq => exact hq.elim
  | .ok .cont, hq => exact hq.elim
theorem x_callG (F : FnG X.prog X.w X.K X.mg X.base (L2.CX X.prog X.w) k f fd ps (spF X.K w.cl φ)) (gd : X.A.guards = some []) (hr : Room k X.A) (hm : X.mg x = some (.ref f)) (hk : PySem.W.keepIn X.K (.ref f) = true) (hb : Binds X.K fd ps []) (tk : Takes X w.W) (ha : PA X (e :: es) (tA X.K w ea))
    (hg : Gl X x := by rfl) (hdb : (x == ("__debug__" : Str)) = false := by decide) (he : starEach (e :: es) X.env = (false, eval e X.env) :: starEach es X.env := by rfl) (hpl : (backTo pos (starEach es X.env)).any (·.1) = false := by rfl) :
    PE X (.Call (.Name x p) (e :: es) [] pos) (tE X.K w (eCallP ea id φ)) :=
  PE.of (pe_callG F gd hr hm hk hb tk ha hg hdb he hpl) fun σ H Q h => by
    obtain ⟨Xs, st, rel, h⟩ := h
    refine ⟨Xs, st, rel, ?_⟩
    unfold eCallP at h
    cases e : ea st with
    | ok ds st1 => rw [e] at h; exact fun vs H1 p1 hv => callP_of p1 hv h
    | ex c d st1 => rw [e] at h; exact h
    | no => rw [e] at h; exact h
theorem x_callAG (F : FnG X.prog X.w X.K X.mg X.base (L2.CX X.prog X.w) k f fd ps (spF X.K w.cl φ)) (gd : X.A.guards = some []) (hr : Room k X.A) (hm : X.mg x = some (.ref f)) (hk : PySem.W.keepIn X.K (.ref f) = true) (hb : Binds X.K fd ps []) (tk : Takes X w.W) (ha : PA X (e :: es) (agT X.K w ags))
    (hg : Gl X x := by rfl) (hdb : (x == ("__debug__" : Str)) = false := by decide) (he : starEach (e :: es) X.env = (false, eval e X.env) :: starEach es X.env := by rfl) (hpl : (backTo pos (starEach es X.env)).any (·.1) = false := by rfl) :
    PE X (.Call (.Name x p) (e :: es) [] pos) (tE X.K w (eCallA ags φ)) :=
  PE.of (pe_callG F gd hr hm hk hb tk ha hg hdb he hpl) fun σ H Q h => callA_of h
end
end TX

end

section
set_option Elab.async false
set_option linter.all false
set_option maxRecDepth 100000
set_option maxHeartbeats 2000000
namespace TX
open PySem L2 PyProof.Rows

/-! ### the law's call, where nothing is being shown -/
section
variable {P : Program} {w : World} {K : PySem.W.Frag} {mg mb : Str → Option Value} {CX : CXT} {k : Nat} {fa a : Addr} {fd : FuncData} {x : Str} {sp : Sp} {s : Shared} {vs : List Value} {ns : List Int}
/-- one run of it: H the script's place alone, or nothing -/
theorem law_runG (inK : K.In s.heap) (G : s.heap.Ns mainGlobals mg) (B : s.heap.Ns builtinsNs mb) (boot : ∀ x : Str, x ≠ "__name__" → mb x = bootBuiltins x) (nl : s.heap.NoLimit) (gens : s.gens = #[])
    (obj : s.heap.get? a = some { cls := .type "list", data := .seq vs.toArray }) (room : Room k callerA)
    (F : ∀ base : Heap, K.In base → base.Ns mainGlobals mg → FnG P w K mg base CX k fa fd [x] sp) (bind : ∀ (s : Shared) (u : Value), BindsTo s fd ⟨[u], []⟩ [(x, u)])
    (out : ∀ H e s', CX [] H s (fun _ _ _ => False) e s' → False) (H : Hp) (only : ∀ b u, H b = some u → b = a ∧ ∃ o us, u = .frz o (.lst us)) (ok : HOk P w H s.heap) (nK : H a ≠ none → K.lookup a = none)
    (promise : sp [.ref a] H (fun v _ => v = .bl true) fun _ _ _ => False) :
    codeAny (model P w) callerA (.call (.ref fa) ⟨[.ref a], []⟩) (fun r s' => r = .ok (.ret (.bool true)) ∧ OldK s.heap s'.heap ∧ s'.os = s.os ∧ AllBare s'.gens) s := by
  -- what is not the script stands in the base
  have free : ∀ {b : Addr} {o : Obj}, s.heap.get? b = some o → (∀ l, o.data ≠ .seq vs.toArray l) → H b = none := fun {b o} e hd => by
    cases q : H b with
    | none => rfl
    | some u =>
      obtain ⟨rfl, _⟩ := only b u q
      rw [obj] at e
      cases e
      exact absurd rfl (hd _)
  have old : ∀ {b : Addr} {m : Str → Option Value}, s.heap.Ns b m → (hidT s.heap H).Ns b m := fun {b m} ⟨o, es, ep, e, d, r⟩ => ⟨o, es, ep, hidT_get e (free e fun l z => by rw [d] at z; cases z), d, r⟩
  have kb : K.In (hidT s.heap H) := fun b o e => hidT_get (inK b o e) (by
    cases q : H b with
    | none => rfl
    | some u =>
      obtain ⟨rfl, _⟩ := only b u q
      rw [nK (by rw [q]; exact Option.some_ne_none u)] at e
      cases e)
  have md : Mod K mg (hidT s.heap H) := ⟨kb, old G, ⟨mb, old B, boot⟩, by obtain ⟨mc, h1, h2⟩ := nl; exact ⟨mc, old h1, h2⟩⟩
  have env : Env0 P w K mg (hidT s.heap H) callerA [] s H := ⟨rfl, md, fun _ _ e => of_hidT e, Nat.le_of_eq (hidT_size _ _), trivial, fun b hb => absurd hb List.not_mem_nil, ok, .of_eq gens⟩
  refine codeAny_mono ((F _ kb (old G)).run callerA rfl [] s H ⟨[.ref a], []⟩ [.ref a] [.ref a] _ _ room env (bind s (.ref a)) (.cons rfl .nil) promise) fun r s' h => ?_
  match r, h with
  | .error e, h => exact (out H e s' h).elim
  | .ok .next, h => exact h.elim
  | .ok .brk, h => exact h.elim
  | .ok .cont, h => exact h.elim
  | .ok (.ret u), h =>
    obtain ⟨v, H', hos, bare, un, ok', rv, hv⟩ := h
    obtain rfl : v = .bl true := hv
    obtain rfl : u = Value.bool true := rv
    refine ⟨rfl, OldK.of_keep fun b o e => ?_, hos, bare⟩
    cases q : H b with
    | none => exact un.keep b o e q (fun z => absurd z List.not_mem_nil) (by simp)
    | some u =>
      obtain ⟨_, ob, us, rfl⟩ := only b u q
      obtain ⟨e1, _⟩ := ok b _ q
      obtain ⟨e2, _⟩ := ok' b _ (un.frzs b ob _ q)
      rw [e] at e1
      cases e1
      exact e2
theorem law_callG (inK : K.In s.heap) (G : s.heap.Ns mainGlobals mg) (B : s.heap.Ns builtinsNs mb) (boot : ∀ x : Str, x ≠ "__name__" → mb x = bootBuiltins x) (nl : s.heap.NoLimit) (gens : s.gens = #[])
    (obj : s.heap.get? a = some { cls := .type "list", data := .seq vs.toArray }) (iv : IntsAre vs ns) (short : ns.length ≤ sizeLine) (room : Room k callerA)
    (F : ∀ base : Heap, K.In base → base.Ns mainGlobals mg → FnG P w K mg base CX k fa fd [x] sp) (bind : ∀ (s : Shared) (u : Value), BindsTo s fd ⟨[u], []⟩ [(x, u)])
    (promise : ∀ H : Hp, SqL K H a (ns.map V.int) → sp [.ref a] H (fun v _ => v = .bl true) fun _ _ _ => False) (out : ∀ H e s', CX [] H s (fun _ _ _ => False) e s' → False) :
    codeAny (model P w) callerA (.call (.ref fa) ⟨[.ref a], []⟩) (fun r s' => r = .ok (.ret (.bool true)) ∧ OldK s.heap s'.heap ∧ s'.os = s.os ∧ AllBare s'.gens) s := by
  have rel := vals_ints iv
  cases hk : K.lookup a with
  | some o =>
    have e := inK a o hk
    rw [obj] at e
    cases e
    exact law_runG inK G B boot nl gens obj room F bind out (fun _ => none) (fun b u z => by cases z) (fun b u z => by cases z) (fun z => absurd rfl z)
      (promise _ (.inr ⟨_, vs.toArray, _, hk, rfl, rfl, rfl, by rw [List.size_toArray, iv.length]; exact short, by simpa using rel⟩))
  | none =>
    have at_ : ∀ {b : Addr} {u : HO}, (if b = a then some (HO.frz { cls := .type "list", data := .seq vs.toArray } (.lst (ns.map V.int))) else none) = some u → b = a ∧ u = .frz { cls := .type "list", data := .seq vs.toArray } (.lst (ns.map V.int)) := fun {b u} z => by
      split at z
      · next e => exact ⟨e, (Option.some.inj z).symm⟩
      · cases z
    refine law_runG inK G B boot nl gens obj room F bind out (fun b => if b = a then some (.frz { cls := .type "list", data := .seq vs.toArray } (.lst (ns.map V.int))) else none) (fun b u z => ?_) (fun b u z => ?_) (fun _ => hk) (promise _ (.inl (.inr ⟨_, if_pos rfl⟩)))
    · obtain ⟨e1, e2⟩ := at_ z
      exact ⟨e1, _, _, e2⟩
    · obtain ⟨e1, e2⟩ := at_ z
      subst e1 e2
      exact ⟨obj, by rw [List.length_map]; exact short, vs, _, rel, obj⟩
end
theorem walk_ofG {l : PySem.W.OpenLaw} {n k : Nat} {q : Program} {loose : List Str} {XP : (Str → Option Value) → Heap → Prop} {YP : World → Heap → Prop} {d : DefRec} {CX : CXT} {x : Str} (hn : l.most = some n) (hn2 : n ≤ sizeLine) (hdf : d.params.defaults = []) (room : Room k callerA)
    (F : ∀ (w : World) (mg : Str → Option Value) (fa : Addr) (h : Heap), YP w h → h.Ns mainGlobals mg → mg d.name = some (.ref fa) →
      ∃ (K : PySem.W.Frag) (fd : FuncData) (sp : Sp), K.In h ∧ (∀ (s : Shared) (u : Value), BindsTo s fd ⟨[u], []⟩ [(x, u)]) ∧ (∀ (H : Hp) (a : Addr) (ns : List Int), ns.length ≤ n → SqL K H a (ns.map V.int) → sp [.ref a] H (fun v _ => v = .bl true) fun _ _ _ => False) ∧
        ∀ base : Heap, K.In base → base.Ns mainGlobals mg → FnG l.prog w K mg base CX k fa fd [x] sp)
    (out : ∀ (H : Hp) (s : Shared) (e : Value) (s' : Shared), CX [] H s (fun _ _ _ => False) e s' → False) : PySem.W.WalkO q loose XP YP l.row.toRowW d [] (fun f vs => PySem.call f vs) :=
  Att.attach_call hn hdf fun w _ s1 mg _ fa _ _ _ _ a _ ns G Y _ _ _ hmg obj iv hlen gens => by
    obtain ⟨K, fd, sp, inK, bind, promise, run⟩ := F w mg fa _ Y G.T.g hmg
    exact law_callG inK G.T.g G.T.b G.T.builtins G.T.nolimit gens obj iv (Nat.le_trans hlen hn2) room run bind (fun H hS => promise H a ns hlen hS) fun H e s' => out H s1 e s'
end TX

end

section
set_option Elab.async false
set_option linter.all false
set_option maxRecDepth 100000
set_option maxHeartbeats 2000000
namespace TX
open PySem L2 Evl PyProof.Rows

/-! ### repr of a list or a tuple, where nothing is being shown -/
def rRepr (K : PySem.W.Frag) : List V → Hp → VK → Prop := fun xs H Q => ∃ (a : Addr) (d : PyData), xs = [.ref a] ∧ Dp K H (.ref a) d ∧ d.canLay0 = true ∧ d.showable = true ∧ d.depth ≤ 20 ∧ d.shown.length ≤ sizeLine ∧ Q (.str d.shown) H
theorem call_repr {X : Cx} (gd : X.A.guards = some []) (hu : X.A.units + 64 < cLine) : CallR X (.builtin "repr") (rRepr X.K) := by
  intro pins s σ H xs us Q I r h
  obtain ⟨a, d, rfl, hd, h1, h2, h3, h4, q⟩ := h
  obtain ⟨u, rfl, ru⟩ := vals1 r
  obtain ⟨as, rd⟩ := Dp.reads I d _ u hd ru
  obtain rfl : u = .ref a := ru
  exact repr_of_reads' rd h2 (PyData.noDict_hsm (PyData.hasDict_of_canLay d h1)) gd (by omega) (fun _ _ e => e) (fun h' t tk k => ⟨.str d.shown, H, I.kept k, ⟨t, rfl⟩, q⟩) h4
def D.isSeq : D → Bool
  | .lst _ => true
  | .tup _ => true
  | _ => false
def fRepr : D → Option R1 := fun d => if d.isSeq = true ∧ d.toP.canLay0 = true ∧ d.toP.showable = true ∧ d.toP.depth ≤ 20 ∧ d.toP.shown.length ≤ sizeLine then some (.str d.toP.shown, false) else none
theorem cb_repr {K : PySem.W.Frag} : Cb1 K (rRepr K) fRepr := by
  intro Xs st σ H x dx z Q rel hx hz hq
  unfold fRepr at hz
  split at hz
  · next hc =>
    cases hz
    obtain ⟨h0, h1, h2, h3, h4⟩ := hc
    have hd := bq_full hx
    have ha : ∃ a, x = .ref a := by
      revert h0 hd
      cases dx with
      | lst ds => intro _ hd; cases hd; exact ⟨_, rfl⟩
      | tup ds => intro _ hd; cases hd; exact ⟨_, rfl⟩
      | _ => intro h0; cases h0
    obtain ⟨a, rfl⟩ := ha
    exact ⟨a, dx.toP, rfl, hd.dp h1, h1, h2, h3, h4, hq _ H (Post.refl rel) (.old (.str _))⟩
  · cases hz
end TX
namespace TX
open PySem L2 Evl PyProof.Rows
/-! ### row.index(e), row a named list -/
def idxAt (d z : D) : Option Nat := match d with
  | .lst _ => (match d.toP with
    | .list ps => if SeqAt.shaped (.list ps) && SeqAt.shaped z.toP then ps.findIdx? fun q => PyData.eqv q z.toP else none
    | _ => none)
  | _ => none
def eIndexV (i : Nat) (e : EvE) : EvE := fun st => match slD st[i]? with
  | some (.lst _) => (e st).bind fun z st1 => match slD st1[i]? with
    | none => .no
    | some d => match idxAt d z.1 with
      | some j => .ok (.int (j : Nat), false) st1
      | none => .no
  | _ => .no
theorem x_indexV {X : Cx} {w : Wi} (i : Nat) {x : Str} {e : Expr} {ev : EvE} {np ap cp : Pos} (hu : X.A.units + 65 < cLine) (he : PE X e (tE X.K w ev)) (hN : X.N[i]? = some x := by rfl) (hv : Vis X.env.scope x := by first | exact Or.inl rfl | exact Or.inr (Or.inl rfl) | exact Or.inr (Or.inr rfl))
    (hd : (x == ("__debug__" : Str)) = false := by decide) (hcd : (x == ("__classdict__" : Str)) = false := by decide)
    (hst : starEach [e] X.env = (false, eval e X.env) :: starEach [] X.env := by rfl)
    (hfew : ((backTo cp (starEach [e] X.env)).all (fun x => !x.1) && (backToKw cp (keywordEach [] X.env)).all (fun x => x.1.isSome) && decide ([e].length + ([] : List Keyword).length + (if ([] : List Keyword).isEmpty then 0 else 1) < 30)) = true := by rfl)
    (hline : (ap.endLine == cp.line) = true := by rfl) :
    PE X (.Call (.Attribute (.Name x np) "index" ap) [e] [] cp) (tE X.K w (eIndexV i ev)) :=
  PE.of (pe_bm PySem.F.plainAttrs_list PySem.F.slot_list_index PySem.F.type_list_index (mt_indexD hu) (pe_var hN hv hd hcd) (pa_cons he pa_nil hst) (by rfl) hfew hline hst) fun σ H Q h => by
    obtain ⟨Xs, st, rel, h⟩ := h
    unfold eIndexV at h
    split at h
    · next ds0 e0 =>
      obtain ⟨v, ev, hv⟩ := slD_at rel e0
      cases bq_full hv with
      | lst q1 q2 =>
        refine ⟨_, ev, .inl ⟨rfl, _, SqL.of q1⟩, tE_seq rel h fun y H1 z st1 p1 v1 h1 => ?_⟩
        split at h1
        · exact h1.elim
        · next d e1 =>
          obtain ⟨v', ev', hv'⟩ := slD_at p1.rel e1
          rw [ev] at ev'
          cases ev'
          split at h1
          · next j ej =>
            have full := bq_full hv'
            unfold idxAt at ej
            split at ej
            · next ds =>
              split at ej
              · next ps eps =>
                split at ej
                · next hs =>
                  rw [Bool.and_eq_true] at hs
                  obtain ⟨hj, hj1, hj2⟩ := List.findIdx?_eq_some_iff_getElem.mp ej
                  have hdp := full.dp (by rw [eps]; exact SeqAt.canLay_of_shaped hs.1)
                  rw [eps] at hdp
                  refine ⟨_, y, z.1.toP, ps, j, ps[j], rfl, rfl, hdp, (dp_mono msk_ex v1.dp).dp (SeqAt.canLay_of_shaped hs.2), hs.1, hs.2, List.getElem?_eq_getElem hj, hj1, fun m z' hm e => ?_, h1 _ H1 p1 (.old (.int _))⟩
                  obtain ⟨hm2, e2⟩ := List.getElem?_eq_some_iff.mp e
                  have := hj2 m hm
                  rw [← e2]
                  simpa using this
                · cases ej
              · cases ej
            · cases ej
          · exact h1.elim
    · exact h.elim
end TX

end

section
set_option Elab.async false
set_option linter.all false
set_option maxRecDepth 100000
set_option maxHeartbeats 2000000
/-! ### an own error made by name: C(value=v) -/
namespace PySem
namespace TellX
open PySem.W PySem.Calls PyProof.Rows PySem.HandSPX
/-- the one argument, by its name -/
abbrev vKw (v : Value) : List (Str × Value) := [("value", v)]
section
variable {prog : Program} {w : World} {A : Around} {E : Value → Shared → Prop} {R : Result → Shared → Prop} {s : Shared} {K : Frag} {mg : Str → Option Value} {C fI : Addr} {v : Value}
variable {nmC qn : Str} {nsA : Addr} {bases tail : List Value} {snm : List Str} {subs : List Value} {abs : Bool} {colB : Option Bool} {dct : Option Addr} {j0 j1 j2 j3 j5 : Option Value}
theorem kw_check {Q : Unit → Shared → Prop} (ht : refsVE tail = true) (hC : s.heap.get? C = some (excClassObj nmC qn C nsA bases tail true snm subs abs colB dct j0 j1 j2 j3 j5 "ValueError.__new__")) (hq : Q () s) :
    wpAny (model prog w) A (checkBuiltinCall "ValueError.__new__" ⟨[.ref C], vKw v⟩) Q E s := by
  obtain ⟨hp, g, d, t, os⟩ := s
  have FB := F.excBase_ValueError
  have own : (Value.ref C :: tail).contains (.type "ValueError") = true := by rw [List.contains_cons, refsVE_contains _ tail ht, FB.hasB, Bool.or_true]
  have ns := FB.noStar
  simp only [checkBuiltinCall, FB.newKind, FB.newSplit, FB.newRow]
  repeat (first
    | refine wpAny_loadPart_at hC ?_
    | (refine wpAny_isSubtype_exc hC ?_; rw [own])
    | refine wpAny_staticBase_exc hC ?_
    | refine wpAny_madeBy_exc hC ?_
    | simp only [bne_self_eq_false, Bool.false_eq_true, if_false]
    | wp_step)
  exact hq
theorem kw_new (ht : refsVE tail = true) (hC : s.heap.get? C = some (excClassObj nmC qn C nsA bases tail true snm subs abs colB dct j0 j1 j2 j3 j5 "ValueError.__new__"))
    (hq : R (.ok (.ret (.ref (s.heap.objs.size + 1)))) { s with heap := (s.heap.push (kdv_tup [])).push (excO C s.heap.objs.size) }) : codeAny (model prog w) A (.builtin "ValueError.__new__" ⟨[.ref C], vKw v⟩) R s := by
  obtain ⟨hp, g, d, t, os⟩ := s
  have FB := F.excBase_ValueError
  have ends := FB.ends
  have own : (Value.ref C :: tail).contains (.type "ValueError") = true := by rw [List.contains_cons, refsVE_contains _ tail ht, FB.hasB, Bool.or_true]
  have ownA : (Value.ref C :: tail).contains (.type "AttributeError") = false := by rw [List.contains_cons, refsVE_contains _ tail ht, FB.noAttr]; rfl
  have ownN : (Value.ref C :: tail).contains (.type "NameError") = false := by rw [List.contains_cons, refsVE_contains _ tail ht, FB.noName]; rfl
  refine codeAny_builtinAt FB.entry ?_
  unfold Builtin.«BaseException.__new__»
  refine wpAt_bind ?_
  show wpAt _ _ _ (stack >>= _) _ _ _
  refine wpAt_bind (wpAt_stack fun pz bz => wpAt_of_wpAny ?_)
  wp_walk
  refine wpAt_of_wpAny ?_
  rw [FB.owner]
  repeat (first
    | with_reducible refine wpAny_madeHere_exc FB.canon hC ?_
    | with_reducible refine wpAny_loadPart_at hC ?_
    | (with_reducible refine wpAny_isSubtype_exc hC ?_; first | rw [own] | rw [ownA] | rw [ownN])
    | wp_step)
  show R _ _
  rw [Heap.size_push]
  exact hq
theorem kw_type {Q : Fin → Shared → Prop} (ht : refsVE tail = true) (hC : s.heap.get? C = some (excClassObj nmC qn C nsA bases tail true snm subs abs colB dct j0 j1 j2 j3 j5 "ValueError.__new__"))
    (hi : Looks (model prog w) s.heap (typeLookup (.ref C) "__init__") (some (.ref fI))) (hb : ∀ self, Looks (model prog w) s.heap (bindSpecial (.ref fI) self) (.ref fI, [self]))
    (hq : codeAny (model prog w) A (.call (.ref fI) ⟨[.ref (s.heap.objs.size + 1)], vKw v⟩) (fun r s' => match r with
      | .ok (.ret z) => z = .none ∧ Q (.done (.ret (.ref (s.heap.objs.size + 1)))) s'
      | .ok _ => False
      | .error e => E e s') { s with heap := (s.heap.push (kdv_tup [])).push (excO C s.heap.objs.size) }) :
    wpAny (model prog w) A (Builtin.«type.__call__» ⟨[.ref C], vKw v⟩) Q E s := by
  obtain ⟨hp, g, d, t, os⟩ := s
  have FB := F.excBase_ValueError
  repeat (first
    | with_reducible refine wpAny_loadPart_at hC ?_
    | with_reducible refine wpAny_madeBy_exc hC ?_
    | wp_step)
  refine codeAny_call_builtin_code (Code.quiet_builtin _ FB.quiet) (kw_check ht hC ?_)
  refine kw_new ht hC ?_
  show wpAny _ _ _ _ _ _
  have kk : ∀ b o, hp.get? b = some o → ((hp.push (kdv_tup [])).push (excO C hp.objs.size)).get? b = some o := fun b o e => Heap.get?_push_of_some _ (Heap.get?_push_of_some _ e)
  have hC1 := kk _ _ hC
  have got : ((hp.push (kdv_tup [])).push (excO C hp.objs.size)).get? (hp.objs.size + 1) = some (excO C hp.objs.size) := by heap_get
  have cC : (Value.ref C :: tail).contains (.ref C) = true := by simp
  have i1 := hi.keeps kk
  have b1 := (hb (.ref (hp.objs.size + 1))).keeps kk
  unfold isInstance
  repeat (first
    | with_reducible refine wpAny_loadPart_at got ?_
    | (with_reducible refine wpAny_isSubtype_exc hC1 ?_; rw [cC])
    | wp_step)
  show wpAny _ _ (typeLookup (.ref C) _) _ _ _
  refine i1.at ?_
  refine wpAny_holding (wpAny_bind (b1.at ?_))
  refine wpAny_bind (wpAny_call (codeAny_mono hq fun r s' z => ?_))
  rcases r with e | (y | _ | _ | _) <;> first | exact z | exact z.elim | skip
  obtain ⟨rfl, z⟩ := z
  first
    | exact wpAny_pure (wpAny_pure z)
    | (wp_walk; exact z)
theorem kw_call (ht : refsVE tail = true) (hC : s.heap.get? C = some (excClassObj nmC qn C nsA bases tail true snm subs abs colB dct j0 j1 j2 j3 j5 "ValueError.__new__"))
    (hi : Looks (model prog w) s.heap (typeLookup (.ref C) "__init__") (some (.ref fI))) (hb : ∀ self, Looks (model prog w) s.heap (bindSpecial (.ref fI) self) (.ref fI, [self]))
    (hq : codeAny (model prog w) (A.under (.builtin "type.__call__" ⟨[.ref C], vKw v⟩)) (.call (.ref fI) ⟨[.ref (s.heap.objs.size + 1)], vKw v⟩) (InitBack (s.heap.objs.size + 1) R) { s with heap := (s.heap.push (kdv_tup [])).push (excO C s.heap.objs.size) }) :
    codeAny (model prog w) A (.call (.ref C) ⟨[], vKw v⟩) R s := by
  obtain ⟨hp, g, d, t, os⟩ := s
  have f1 := tc_lookup
  have f2 := tc_bind (.ref C)
  have hT : (⟨hp, g, d, t, os⟩ : Shared).TypeIs (.ref C) "type" := ⟨_, hC, rfl⟩
  refine codeAny_of_tree ?_
  show wpAny _ _ (callAny (.ref C) _) _ _ _
  repeat (any_goals (first
    | assumption
    | with_reducible refine wpAny_loadPart_at hC ?_
    | wp_step))
  refine ⟨rfl, ?_⟩
  refine codeAny_call_builtin_at (Code.quiet_builtin _ (by decide +kernel)) entry_typeCall (wpAny_check_type_call_sub hC (kw_type ht hC hi hb ?_))
  refine codeAny_mono hq fun r s' z => ?_
  rcases r with e | (y | _ | _ | _) <;> exact z
theorem tell_initK (T : TellTxt K C fI) {x t0 : Addr} (X : K.In s.heap) (hlim : s.heap.NoLimit) (hx : s.heap.get? x = some (excO C t0)) (hnx : K.lookup x = none) (hroom : A.depth < recursionLimit)
    (hq : ∀ h' tk dx, InitEnd s.heap h' x C dx t0 v → R (.ok (.ret .none)) { s with heap := h', toks := tk }) :
    codeAny (model prog w) A (.call (.ref fI) ⟨[.ref x], vKw v⟩) R s := by
  obtain ⟨oc, od, kV, doc, pm, an, cdv, ct, osl, p1, p2, q1, q2, q3, q4, ho, hcd⟩ := T.fn
  obtain ⟨nm, q, N, bs, bm, sn, sub, ab, col, dd, k0, k1, k2, k3, k5, hC, hbm⟩ := T.cls
  have hcl : clsIn K C = some { name := nm, bases := bs, mro := .ref C :: bm, ns := N, qualname := q, hasDict := true, slotNames := sn, subclasses := sub, abstract := ab, collection := col, hasDel := false } := by unfold clsIn; rw [hC] <;> rfl
  refine Att.call_fn (binds := [("self", .ref x), ("value", v)]) X hlim ho hcd hroom (BindsTo.of_eq (by first | rfl | with_unfolding_all rfl)) (by first | rfl | decide | with_unfolding_all rfl) (fun s₁ IC => ?_) rfl rfl rfl
  obtain ⟨h₁, tk₁, rfl⟩ := IC.toInCall.same
  have k : ∀ b o, s.heap.get? b = some o → h₁.get? b = some o := IC.toInCall.keep
  have hn := IC.toInCall.ns
  have X₁ : K.In h₁ := X.keeps k
  have hx₁ := k _ _ hx
  show wpAny _ _ (execs _ _) _ _ _
  refine wpAny_execs_cons (plainObj_wpAny_Assign_Attribute ?_)
  refine ldC (v := v) hn (by first | rfl | with_unfolding_all rfl | kernel_rfl) (ldC (v := .ref x) hn (by first | rfl | with_unfolding_all rfl | kernel_rfl) ?_)
  refine set_plain X₁ (ox := excO C t0) (od := none) ⟨hx₁, rfl, rfl, trivial⟩ T.sa ?_
  refine exc_osa X₁ hx₁ hcl (show refsVE (.ref C :: bm) = true from hbm) rfl T.noN (fun h₃ tk₃ dx k₃ dn dne hx₃ hn₃ => ?_)
  show wpAny _ _ (execs _ _) _ _ _
  have z : s.heap.objs.size < h₁.objs.size := hn.lt
  exact wpAny_execs_nil (hq h₃ tk₃ dx ⟨fun b o hb e => k₃ b o hb (k b o e), hx₃, Nat.le_of_lt (Nat.lt_of_lt_of_le z dn), dne, hn₃⟩)
theorem tell_madeK (T : TellTxt K C fI) (X : K.In s.heap) (hlim : s.heap.NoLimit) (hroom : A.depth + 1 < recursionLimit)
    (hq : ∀ h' tk e d, OwnMade s.heap h' e C d v → R (.ok (.ret (.ref e))) { s with heap := h', toks := tk }) :
    codeAny (model prog w) A (.call (.ref C) ⟨[], vKw v⟩) R s := by
  obtain ⟨nm, q, N, bs, bm, sn, sub, ab, col, dd, k0, k1, k2, k3, k5, hC, hbm⟩ := T.cls
  obtain ⟨hp, g, dr, tk, os⟩ := s
  have k : ∀ b o, hp.get? b = some o → ((hp.push (kdv_tup [])).push (excO C hp.objs.size)).get? b = some o := fun b o e => Heap.get?_push_of_some _ (Heap.get?_push_of_some _ e)
  have hget : ((hp.push (kdv_tup [])).push (excO C hp.objs.size)).get? (hp.objs.size + 1) = some (excO C hp.objs.size) := by heap_get
  have hnx : K.lookup (hp.objs.size + 1) = none := by
    cases e : K.lookup (hp.objs.size + 1) with
    | none => rfl
    | some o =>
      have z : hp.get? (hp.objs.size + 1) = some o := X _ _ e
      exact absurd (Nat.lt_of_succ_lt (Heap.lt_size z)) (Nat.lt_irrefl _)
  refine kw_call (s := ⟨hp, g, dr, tk, os⟩) hbm (X _ _ hC) (looks_findIn X T.iC) (fun self => bind_fn X self T.tC) ?_
  refine tell_initK (s := ⟨(hp.push (kdv_tup [])).push (excO C hp.objs.size), g, dr, tk, os⟩) T (X.keeps k) (hlim.keeps k) hget hnx ?_ fun h' tk' dx ⟨k', hx, dn, dne, hns⟩ => ?_
  · show A.depth + 1 < recursionLimit
    exact hroom
  · have old : ∀ b o, hp.get? b = some o → h'.get? b = some o := fun b o e => k' b o (Nat.ne_of_lt (Nat.lt_succ_of_lt (Heap.lt_size e))) (k b o e)
    have z : hp.objs.size + 1 + 1 ≤ dx := by
      first
        | (simpa only [Heap.size_push] using dn)
        | exact dn
        | (have q := dn; rw [Heap.size_push, Heap.size_push] at q; exact q)
    exact ⟨rfl, hq h' tk' (hp.objs.size + 1) dx ⟨old, Nat.le_succ _, ⟨_, _, hx, rfl, rfl, rfl, rfl⟩, Nat.le_trans (Nat.le_trans (Nat.le_succ _) (Nat.le_succ _)) z, dne, hns⟩⟩
end
end TellX
end PySem
namespace L2
open PySem PySem.Spec PyProof.Rows
section
variable {X : Cx} {C fI : Addr}
/-- what a made error leaves, seen from outside -/
theorem mk_done {pins : List (Addr × Obj)} {σ : L2.St} {H1 : Hp} {s1 : Shared} {v : V} {v' : Value} {Q : Value → Option Addr → Hp → Prop} (T : PySem.TellX.TellTxt X.K C fI) (I1 : Inv X pins σ H1 s1) (rv : RelV v v') (q1 : ∀ d, H1 d = none → Q (.ref C) (some d) (upd H1 d (.xd [(("value" : Str), v)])))
    {h' : Heap} {tk' : Nat} {e d : Addr} (M : PySem.TellX.OwnMade s1.heap h' e C d v') : MkP X pins σ Q (.ref e) { s1 with heap := h', toks := tk' } := by
  obtain ⟨hp, g, dr, tk, os⟩ := s1
  obtain ⟨oe, fv, hoe, hc, hd, hdat, h1⟩ := M.obj
  have hns := M.ns
  obtain ⟨G', g1, g2⟩ := restrict h' fun b => decide (b ≠ e)
  have gk : ∀ b, b ≠ e → G'.get? b = h'.get? b := fun b hb => g1 b (decide_eq_true hb)
  have ge : G'.get? e = none := g2 e (by simp)
  have old : ∀ b o, hp.get? b = some o → G'.get? b = some o := fun b o q => (gk b (Nat.ne_of_lt (Nat.lt_of_lt_of_le (Heap.lt_size q) M.new))).trans (M.keep b o q)
  have ob : ObjOk X.prog X.w (upd H1 d (.xd [(("value" : Str), v)])) G' d (.xd [(("value" : Str), v)]) := ⟨_, hns.at (fun o q => (gk d M.dne).trans q), fun f => relO_tell rv f⟩
  have J : Inv X pins σ (upd H1 d (.xd [(("value" : Str), v)])) ⟨G', g, dr, tk', os⟩ := I1.laid (t' := tk') old M.dbig ob
  refine ⟨e, oe, fv, ⟨G', g, dr, tk', os⟩, _, .ref C, some d, rfl, J, fun b o q => ?_, ge, hoe, ⟨hc, hd⟩, hdat, h1, ?_, rfl, I1.bare, raises_own T.exC T.tyC, q1 d (I1.hok.fresh M.dbig)⟩
  · by_cases hb : b = e
    · have q' : G'.get? b = some o := q
      rw [hb, ge] at q'; cases q'
    · exact (gk b hb).symm.trans q
  · rw [upd_ne (Ne.symm M.dne)]
    exact I1.hok.fresh M.new
theorem pmk_tellK {a : Expr} {ta : TA} {nm : Str} {p pos kpos : Pos} {k : Nat} (T : PySem.TellX.TellTxt X.K C fI) (hr : Room k X.A) (ha : PK X [⟨some "value", a, kpos⟩] ta) (gC : X.mg nm = some (.ref C)) (hg : Gl X nm := by rfl) (hdb : (nm == ("__debug__" : Str)) = false := by decide)
    (hall : (backToKw pos (keywordEach [⟨some "value", a, kpos⟩] X.env)).all (·.1.isSome) = true := by rfl) (hks : (backToKw pos (keywordEach [⟨some "value", a, kpos⟩] X.env)).filterMap (·.1) = [("value" : Str)] := by rfl)
    (hpl : ((backTo pos (starEach [] X.env)).any (·.1) || (backToKw pos (keywordEach [⟨some "value", a, kpos⟩] X.env)).any (·.1.isNone)) = false := by rfl) : PMk X (.Call (.Name nm p) [] [⟨some "value", a, kpos⟩] pos) (tMkTell C ta) := by
  intro pins s σ H Q I h
  refine wpAny_Call_Name_kw (ld_glob I hg gC ?_ hdb)
  refine PySem.W.callWith_KW0 (h₀ := X.base) I.ok.mod.kin T.kC hall (thn (ha.run pos pins s σ H _ I h) fun us s1 hh => ?_) hpl
  obtain ⟨vs, H1, I1, r1, v, ev, q1⟩ := hh
  subst ev
  refine ⟨I1.kIn, ?_⟩
  rw [hks]
  cases r1 with
  | cons rv rn =>
    rename_i v' us'
    cases rn
    show wpAny _ _ (call (.ref C) [] [(("value" : Str), v')]) _ _ _
    have hlim := I1.nolimit
    refine wpAny_call (PySem.TellX.tell_madeK T I1.kIn hlim (by have := hr.dp; omega) fun h' tk' e d M => ?_)
    exact mk_done T I1 rv q1 M
end
end L2
namespace TX
open PySem L2 Evl PyProof.Rows
section
variable {X : Cx} {w : Wi} {P : List Nat} {pos pos2 p kpos : Pos} {nm : Str} {k : Nat} {fI : Addr}
/-- raise C(value=e) -/
theorem xs_raiseK (c : Nat) {e : Expr} {ev : EvE} (T : PySem.TellX.TellTxt X.K (w.cl c) fI) (gC : X.mg nm = some (.ref (w.cl c))) (hr : Room k X.A) (hc : X.calm = true) (tk : Takes X w.W) (he : PE X e (tE X.K w ev)) (hg : Gl X nm := by rfl) (hdb : (nm == ("__debug__" : Str)) = false := by decide)
    (hall : (backToKw pos (keywordEach [⟨some "value", e, kpos⟩] X.env)).all (·.1.isSome) = true := by rfl) (hks : (backToKw pos (keywordEach [⟨some "value", e, kpos⟩] X.env)).filterMap (·.1) = [("value" : Str)] := by rfl)
    (hpl : ((backTo pos (starEach [] X.env)).any (·.1) || (backToKw pos (keywordEach [⟨some "value", e, kpos⟩] X.env)).any (·.1.isNone)) = false := by rfl) : PS X (.Raise (some (.Call (.Name nm p) [] [⟨some "value", e, kpos⟩] pos)) none pos2) (tS X.K w P (sRaise c ev)) :=
  PS.of (ps_raise hc tk (pmk_tellK T hr (pk_cons he pk_nil) gC hg hdb hall hks hpl)) fun Dn σ H h => by
    obtain ⟨Xs, B, st, r, h⟩ := h
    show tE X.K w ev σ H _
    refine tE_S r h fun v H1 z st1 p1 p v1 h1 => ⟨v, rfl, fun d hd => ?_⟩
    have q := rel_new (o := .xd [(fV, v)]) p.rel.rel hd
    exact h1 d v σ _ (p.trans (.of p.rel q)) (by show msk _ _ d = _; rw [msk_out (rel_hid p.rel.rel hd), upd_same]) (dp_mono q.ex v1.dp)
end
/-! ### isinstance of a caught error -/
def rIsc (K : PySem.W.Frag) : List V → Hp → VK → Prop := fun xs H Q => ∃ (a C dx : Addr) (y c : V) (u : Value) (b : Bool), xs = [.ref a, c] ∧ ClsV c u ∧ GoodC K C ∧ H a = some (xo a (.ref C) (some dx)) ∧ H dx = some (.xd [(fV, y)]) ∧ PySem.W.kitOne K (.ref C) u = some b ∧ Q (.bl b) H
theorem call_isc {X : Cx} : CallR X (.builtin "isinstance") (rIsc X.K) := by
  intro pins s σ H xs us Q I r h
  obtain ⟨a, C, dx, y, c, u, b, rfl, k, g, ea, ed, e, q⟩ := h
  obtain ⟨u1, u2, rfl, r1, r2⟩ := vals2 r
  have e2 := k.eq r2
  subst e2
  obtain rfl : u1 = Value.ref a := r1
  obtain ⟨⟨oe, vs, ho, hoc, hod, hof⟩, _, _⟩ := (show ObjOk X.prog X.w H s.heap a (xo a (.ref C) (some dx)) from I.hok a _ ea)
  obtain ⟨mA, hns, hrel⟩ := (show ObjOk X.prog X.w H s.heap dx (.xd [(fV, y)]) from I.hok dx _ ed)
  obtain ⟨od, hdd, hl⟩ := lookIn_ns hns
  have J : PySem.W.InstAt s.heap a oe C (some od) := ⟨ho, hoc, by unfold PySem.W.notCls; rw [hof] <;> rfl, by rw [hod]; exact hdd⟩
  exact PySem.W.kia_one (PySem.W.kitx_exc g.clC g.ga g.gg g.exC g.caC g.cnC g.ctC g.cmC) I.kIn J e (fun z => nomatch z) fun tk => ⟨.bl b, H, I.tok tk, rfl, q⟩
/-- m: which of the first n classes are of the asked one -/
def fIsc (cl : Nat → Addr) (n : Nat) (m : Nat → Bool) : D → Option R1 := fun d => match d with
  | .exc C _ => match (List.range n).find? (fun c => decide (cl c = C)) with
    | some c => some (.bl (m c), false)
    | none => none
  | _ => none
section
variable {X : Cx} {w : Wi} {n : Nat} {m : Nat → Bool} {p pos tpos : Pos} {a b : Expr} {ea : EvE} {cv : V} {u : Value}
theorem x_isc (hv : ClsV cv u) (hb : PE X b (tC cv)) (hk : ∀ c, c < n → PySem.W.kitOne X.K (.ref (w.cl c)) u = some (m c)) (hm : X.mg "isinstance" = none) (ha : PE X a (tE X.K w ea)) (hg : Gl X "isinstance" := by rfl)
    (he : starEach [a, b] X.env = (false, eval a X.env) :: starEach [b] X.env := by rfl) (he2 : starEach [b] X.env = (false, eval b X.env) :: starEach [] X.env := by rfl) (hpl : (backTo pos (starEach [b] X.env)).any (·.1) = false := by rfl) : PE X (.Call (.Name "isinstance" p) [a, b] [] pos) (tE X.K w (eUn (fIsc w.cl n m) ea)) :=
  PE.of (pe_callB call_isc hg hm (by decide +kernel) (pa_cons ha (pa_cons hb pa_nil he2) he) (by decide) (by decide) he hpl) fun σ H Q h => by
    obtain ⟨Xs, st, rel, h⟩ := h
    refine tE_seq rel h fun x H1 rx st1 p1 v1 h1 => ?_
    have dp := v1.dp
    revert h1 dp
    cases rx.1 with
    | exc C d =>
      intro h1 dp
      unfold fIsc at h1
      dsimp only at h1
      split at h1
      · next z e =>
        split at e
        · next c ec =>
          have e1 : decide (w.cl c = C) = true := List.find?_some (p := fun i => decide (w.cl i = C)) ec
          have e2 := List.mem_range.mp (List.mem_of_find?_eq_some ec)
          have e3 : w.cl c = C := of_decide_eq_true e1
          cases e
          cases dp with
          | exc g q1 q2 q3 => exact ⟨_, C, _, _, cv, u, m c, rfl, hv, g, msk_ex _ _ q1, msk_ex _ _ q2, by rw [← e3]; exact hk c e2, h1 _ H1 p1 (.old (.bl _))⟩
        · cases e
      · exact h1.elim
    | _ => intro h1; exact h1.elim
theorem cls_own {C : Addr} {nm : Str} (hm : X.mg nm = some (.ref C)) (hg : Gl X nm := by rfl) (hd : (nm == ("__debug__" : Str)) = false := by decide) : PE X (.Name nm tpos) (tC (.ref C)) := pe_glob hg hm (show RelV (.ref C) (.ref C) from rfl) hd
theorem cls_ty {T : String} {nm : Str} (hm : X.mg nm = none) (hv : bootBuiltins nm = some (.type T)) (hg : Gl X nm := by rfl) (hn : nm ≠ "__name__" := by decide) (hd : (nm == ("__debug__" : Str)) = false := by decide) : PE X (.Name nm tpos) (tC (.ty T)) := pe_bltn hg hm hv rfl hn hd
end
theorem cl_inj {K : PySem.W.Frag} {cl : Nat → Addr} {mt : Nat → Nat → Bool} {n : Nat} (E : ErrK K cl mt n) (h : ∀ c, c < n → ∀ c', c' < n → (∀ k, k < n → mt c k = mt c' k) → c = c') : ∀ c c', c < n → c' < n → cl c = cl c' → c = c' := fun c c' hc hc' e => h c hc c' hc' fun k hk => by
  have h1 := E.ex c k hc hk
  have h2 := E.ex c' k hc' hk
  rw [e, h2] at h1
  exact (Option.some.inj h1).symm
/-! ### C(e).value, the error made here -/
def fSelf : D → Option R1 := fun d => some (d, false)
section
variable {X : Cx} {w : Wi} {p pos apos : Pos} {nm : Str} {k : Nat} {C fI : Addr}
theorem x_newval {a : Expr} {ea : EvE} (T : PySem.TellX.TellTxt X.K C fI) (gC : X.mg nm = some (.ref C)) (hr : Room k X.A) (ha : PE X a (tE X.K w ea)) (hg : Gl X nm := by rfl) (hdb : (nm == ("__debug__" : Str)) = false := by decide)
    (he : starEach (a :: []) X.env = (false, eval a X.env) :: starEach [] X.env := by rfl) (hpl : (backTo pos (starEach [] X.env)).any (·.1) = false := by rfl)
    (hb : attributeBase (.Call (.Name nm p) [a] [] pos) fV X.env (eval (.Call (.Name nm p) [a] [] pos) X.env) = eval (.Call (.Name nm p) [a] [] pos) X.env := by rfl) :
    PE X (.Attribute (.Call (.Name nm p) [a] [] pos) fV apos) (tE X.K w (eUn fSelf ea)) := by
  refine ⟨fun pins s σ H Q I h => ?_⟩
  obtain ⟨Xs, st, rel, h⟩ := h
  have h2 : tE X.K w ea σ H Q := tE_seq rel h fun x H1 rx st1 p1 v1 h1 => h1 x H1 p1 (.old v1.dp)
  refine attr_of hb (wpAny_Call_Name_kw (ld_glob I hg gC ?_ hdb))
  refine PySem.W.callWith_K (h₀ := X.base) I.ok.mod.kin T.kC (thn ((pa_cons ha pa_nil he).run pos pins s σ H (fun vs H1 => ∃ v, vs = [v] ∧ Q v H1) I ?_) fun us s1 hh => ?_) he hpl
  · obtain ⟨Ys, st', rel', h'⟩ := h2
    exact ⟨Ys, st', rel', h'.mono (fun z s g v H' p q => ⟨v, rfl, g v H' p q⟩) fun _ _ _ z => z⟩
  · obtain ⟨vs, H1, I1, r1, v, ev, q1⟩ := hh
    subst ev
    refine ⟨I1.kIn, ?_⟩
    cases r1 with
    | cons rv rn =>
      rename_i v' us'
      cases rn
      show wpAny _ _ (call (.ref C) [v']) _ _ _
      have hlim := I1.nolimit
      obtain ⟨hp, g, dr, tk, os⟩ := s1
      refine wpAny_call (PySem.TellX.tell_made T I1.kIn hlim (by have := hr.dp; omega) fun h' tk' e d M => ?_)
      obtain ⟨oe, fv, hoe, hc, hd, hdat, h1⟩ := M.obj
      obtain ⟨od, hdd, hl⟩ := lookIn_ns M.ns
      have I2 : Inv X pins σ H1 ⟨h', g, dr, tk', os⟩ := I1.kept M.keep
      have J : PySem.W.InstAt h' e oe C (some od) := ⟨hoe, hc, by unfold PySem.W.notCls; rw [hdat] <;> rfl, by rw [hd]; exact hdd⟩
      exact HandSPX.exc_get I2.kIn J T.ga T.gg T.exC (PySem.W.findObj_own T.hdC T.noN rfl ((hl _).trans (congrArg some (if_pos rfl)))) (handed_of rv) ⟨v, H1, I2.tok _, rv, q1⟩
end
end TX

end

section
set_option Elab.async false
set_option linter.all false
set_option maxRecDepth 100000
set_option maxHeartbeats 2000000
/-! all, any of a generator expression: its elements are read in a block of the generator's own frame -/
namespace GnX
open PySem PySem.Spec PyProof.Rows L2 GxR GenW
/-- a generator expression's own scope -/
structure GScope (N : List Str) (sc scope : Scope) (own : List (Str × Nat)) : Prop where
  blk : BlkOk N sc scope own
  co : scope.isCoroutine = false
  cell : ∀ y ∈ scope.names, y.2 ≠ .cell
  dot : scope.names.lookup (".0" : Str) = some NameKind.local
/-- the context of the generator's frame: made at s -/
abbrev gblk (X : Cx) (s : Shared) (H : Hp) (ce : Env) (fp : List Addr) (A : Around) : Cx := { X with s_0 := s, H_0 := H, A := A, env := ce, outer := X.stack, stack := ce :: X.stack, ex := fp, fn := fun _ => false, pn := [], xe := fun _ _ => False }
section
variable {X : Cx} {pins : List (Addr × Obj)} {σ : L2.St} {H : Hp} {s : Shared}
theorem gblk_start {scope : Scope} {own : List (Str × Nat)} {fp : List Addr} {code : Value} {A : Around} {h' : Heap} {tk : Nat} {gs : GenState} {gobj : Obj} {m0 : Str → Option Value} {fo : Obj} (I : Inv X pins σ H s) (ok : GScope X.N X.env.scope scope own) (hN : X.N.Nodup)
    (hfp : ∀ b ∈ fp, FpOk X pins H b ∧ b < s.heap.objs.size) (hA : A.handled = none) (hfr : A.frames = some (genEnv scope (cloFrom X.env.cells scope.names []) s.heap.objs.size code builtinsNs X.env :: X.stack))
    (hn : h'.Ns s.heap.objs.size m0) (hs : Heap.SameBut s.heap.objs.size (s.heap.push fo) h') (hg : gs.bare = true) (hd : ∀ v, gobj.data ≠ .cell v) (hF : Obj.isFreed gobj = false) :
    Inv (gblk X s H (genEnv scope (cloFrom X.env.cells scope.names []) s.heap.objs.size code builtinsNs X.env) fp A) [(h'.objs.size, gobj)] (wipe σ (own.map (·.2))) H { s with gens := s.gens.push gs, toks := tk, heap := h'.push gobj } := by
  have hfree : ∀ y ∈ scope.names, y.2 = .free → ∃ c, X.env.cells.lookup y.1 = some c := fun y hy e => by
    rcases ok.blk.free y hy e with k | k
    · exact I.ok.has _ (.inl k)
    · exact I.ok.has _ (.inr k)
  generalize hce : genEnv scope (cloFrom X.env.cells scope.names []) s.heap.objs.size code builtinsNs X.env = ce at hfr ⊢
  have hL : ce.locals = s.heap.objs.size := by rw [← hce]; rfl
  have hcl : ce.cells = cloFrom X.env.cells scope.names [] := by rw [← hce]; rfl
  have hsc : ce.scope = scope := by rw [← hce]; rfl
  have sz : h'.objs.size = s.heap.objs.size + 1 := by rw [hs.1, Heap.size_push]
  have kp' : ∀ b o, s.heap.get? b = some o → h'.get? b = some o := fun b o e => hs.extBut b o (Nat.ne_of_lt (Heap.lt_size e)) (Heap.get?_push_of_some _ e)
  have kp : ∀ b o, s.heap.get? b = some o → (h'.push gobj).get? b = some o := fun b o e => Heap.get?_push_of_some _ (kp' b o e)
  have cm : ∀ {y c}, ce.cells.lookup y = some c → X.env.cells.lookup y = some c ∧ c < s.heap.objs.size := fun {y c} e => by
    rw [hcl] at e
    rcases cloFrom_mem (PySem.mem_of_lookup e) with hm | ⟨h1, rfl⟩
    · cases hm
    · obtain ⟨c, hc⟩ := hfree _ h1 rfl
      rw [hc]
      obtain ⟨w, z⟩ := I.cell _ _ hc
      exact ⟨rfl, z.lt⟩
  have look : ∀ {y}, scope.names.lookup y = some .free → ∃ c, ce.cells.lookup y = some c := fun {y} hl => by
    obtain ⟨c', e'⟩ := mem_lookup (cloFrom_has (cells := X.env.cells) (acc := []) (PySem.mem_of_lookup hl))
    exact ⟨c', by rw [hcl]; exact e'⟩
  have kind : ∀ {y k}, ce.kindOf y = some k → scope.names.lookup y = some k := fun {y k} e => by
    unfold Env.kindOf at e
    rw [hsc] at e
    exact e
  have okB : (gblk X s H ce fp A).Ok := by
    refine ⟨I.ok.mod, by show ce.scope.kind = _; rw [hsc]; exact ok.blk.kind, by show ce.globals = _; rw [← hce]; exact I.ok.glob, by show ce.builtins = _; rw [← hce]; rfl, by show s.heap.objs.size ≤ ce.locals; rw [hL]; exact Nat.le_refl _,
      fun y z c e1 e2 => I.ok.inj y z c (cm e1).1 (cm e2).1, fun y hy => ?_, fun y c z e => (by cases z), fun _ => hA, hfr, .inr ⟨rfl, ?_⟩, fun b hb => ⟨?_, fun y c e z => ?_⟩, I.bs, Nat.le_trans I.ok.bsz I.sz, fun b o e hb => ?_, fun b hb z => ?_, I.stack, I.stkFree⟩
    · rcases hy with hy | hy
      · exact absurd rfl (ok.cell _ (PySem.mem_of_lookup (kind hy)))
      · exact look (kind hy)
    · show ce.frame = some ce.locals
      rw [← hce]; rfl
    · show b ≠ ce.locals
      rw [hL]; exact Nat.ne_of_lt (hfp b hb).2
    · exact (hfp b hb).1.2.2.2.2.1 y c (cm e).1 z
    · rcases (hfp b hb).1.2.2.2.1 with z | z
      · exact I.ok.noex b o e z
      · exact absurd (Nat.lt_of_lt_of_le (Heap.lt_size e) (Nat.le_trans I.ok.bsz z)) (Nat.lt_irrefl _)
    · rcases List.mem_cons.mp (I.stkSub b z) with z | z
      · exact (hfp b hb).1.2.1 z
      · exact (hfp b hb).1.2.2.1 z
  have nstk : ∀ b, s.heap.objs.size ≤ b → b ∉ frs X.stack := fun b hb z => by
    rcases List.mem_cons.mp (I.stkSub b z) with z | z
    · rw [z] at hb; exact absurd (Nat.lt_of_lt_of_le I.lt hb) (Nat.lt_irrefl _)
    · exact I.nofs hb z
  refine ⟨okB, rfl, I.bare.push hg, Un.kept kp, ⟨m0, ?_, fun i y av e1 e2 e3 => ?_⟩, fun y c e => ?_, ?_, fun y c e => ?_, fun p hp => ?_, I.hok.kept kp, by rw [wipe_length]; exact I.len⟩
  · show Heap.Ns _ ce.locals _
    rw [hL]
    exact hn.push _
  · obtain ⟨e2, hne⟩ := wipe_some e2
    have hfr2 : scope.names.lookup y = some .free := by
      have no : ¬ (scope.names.lookup y = some .local ∨ scope.names.lookup y = some .cell) := fun hh => by
        have key : ∀ k, scope.names.lookup y = some k → (k = .local ∨ k = .cell) → False := fun k hk hk' => by
          rcases ok.blk.own _ (PySem.mem_of_lookup hk) hk' with e' | e'
          · obtain ⟨p, hp, hpy⟩ := List.mem_map.mp e'
            have e4 := ok.blk.ix p hp
            have : p.1 = y := hpy
            rw [this] at e4
            exact hne (List.mem_map.mpr ⟨p, hp, nodup_ix hN e4 e1⟩)
          · exact e' (List.mem_of_getElem? e1)
        rcases hh with z | z
        · exact key _ z (.inl rfl)
        · exact key _ z (.inr rfl)
      have e3 : Vis ce.scope y := e3
      rw [hsc] at e3
      rcases e3 with e3 | e3 | e3
      · exact absurd (.inl e3) no
      · exact absurd (.inr e3) no
      · exact e3
    obtain ⟨m, hn1, hl⟩ := I.loc
    have hvis : Vis X.env.scope y := (ok.blk.free _ (PySem.mem_of_lookup hfr2) rfl).elim (fun k => .inr (.inl k)) (fun k => .inr (.inr k))
    obtain ⟨w, r, q⟩ := hl i y av e1 e2 hvis
    obtain ⟨c, h1⟩ := look hfr2
    refine ⟨w, r, .inr ⟨.inr (by show ce.kindOf y = _; unfold Env.kindOf; rw [hsc]; exact hfr2), c, h1, ?_⟩⟩
    have h2 := (cm h1).1
    rcases q with ⟨k, _⟩ | ⟨_, c', e', z⟩
    · have k : X.env.scope.names.lookup y = some .local := k
      rcases ok.blk.free _ (PySem.mem_of_lookup hfr2) rfl with k' | k' <;> rw [show X.env.scope.names.lookup y = _ from k'] at k <;> cases k
    · rw [h2] at e'; cases e'
      exact z.keeps kp
  · obtain ⟨w, z⟩ := I.cell y c (cm e).1
    exact ⟨w, z.keeps kp⟩
  · show H ce.locals = none
    rw [hL]; exact I.hok.fresh (Nat.le_refl _)
  · exact I.freeC y c (cm e).1
  · have hp : p = (h'.objs.size, gobj) := by
      have : p ∈ [(h'.objs.size, gobj)] := hp
      simpa using this
    subst hp
    refine ⟨Heap.get?_push_size _ hF, I.hok.fresh (by rw [sz]; exact Nat.le_succ _), ?_, nstk _ (by show s.heap.objs.size ≤ h'.objs.size; rw [sz]; exact Nat.le_succ _), hd⟩
    show h'.objs.size ≠ ce.locals
    rw [hL, sz]
    exact Nat.succ_ne_self _
/-- between two turns nothing but the table of generators and the tokens change -/
structure Woke (g : Nat) (s s' : Shared) : Prop where
  heap : s'.heap = s.heap
  os : s'.os = s.os
  bare : AllBare s'.gens
  sz : g < s'.gens.size
theorem Inv.woke {g : Nat} {s' : Shared} (I : Inv X pins σ H s) (w : Woke g s s') : Inv X pins σ H s' := by
  obtain ⟨h', g', d', t', o'⟩ := s'
  have e1 : h' = s.heap := w.heap
  have e2 : o' = s.os := w.os
  subst e1; subst e2
  exact ⟨I.ok, I.os, w.bare, I.base, I.loc, I.cell, I.free, I.freeC, I.pin, I.hok, I.len⟩
end
end GnX
namespace GnX
open PySem PySem.Spec PyProof.Rows L2 GxR GenW
section
variable {X : Cx} {s4 : Shared} {H4 : Hp} {ce : Env} {fp : List Addr} {A : Around} {elt tg iter : Expr} {ifs : List Expr} {scope : Scope} {pos : Pos} {it a : Addr} {g : Nat} {gobj : Obj} {σ0 : L2.St} {vs : List Nat} {J : It} {tn : Nat → Heap → Prop} {gg : TG} {tt : TT} {te : TE} {W : Nat → Nat → Hp → Prop} {b : Bool} {Q : VK}
/-- the loop's code, the around in which it runs -/
abbrev gcode (elt tg iter : Expr) (ifs : List Expr) (scope : Scope) (pos : Pos) (it : Addr) (ce : Env) : Code := .compLoop (.GeneratorExp elt [⟨tg, iter, ifs, 0⟩] scope pos) 0 (.ref it) .none ce
/-- ahead of turn i, m a measure -/
def SGo (Xg : Cx) (fp : List Addr) (a : Addr) (gobj : Obj) (g : Nat) (σ0 : L2.St) (tn : Nat → Heap → Prop) (W : Nat → Nat → Hp → Prop) (i m : Nat) (H : Hp) (s : Shared) : Prop :=
  Inv Xg [(a, gobj)] σ0 H s ∧ tn i s.heap ∧ (∀ b ∈ fp, H b = none) ∧ W i m H ∧ g < s.gens.size
def YG (Xg : Cx) (fp : List Addr) (a : Addr) (gobj : Obj) (g : Nat) (σ0 : L2.St) (tn : Nat → Heap → Prop) (W : Nat → Nat → Hp → Prop) (b : Bool) (Q : VK) : Protocol := fun n _ v s kap =>
  ∃ (r : Bool) (H : Hp), v = .bool r ∧ g < s.gens.size ∧ Inv Xg [(a, gobj)] σ0 H s ∧ (if r = b then ∀ s', Woke g s s' → kap (.send .none) s' else Q (.bl r) H)
def PGe (Xg : Cx) (a : Addr) (gobj : Obj) (g : Nat) (σ0 : L2.St) (b : Bool) (Q : VK) : Nat → Shared → Shared → Prop := fun _ _ s => ∃ H, g < s.gens.size ∧ Inv Xg [(a, gobj)] σ0 H s ∧ Q (.bl b) H
/-- what a turn comes to -/
def TurnG (J : It) (gg : TG) (tt : TT) (te : TE) (σ0 : L2.St) (vs : List Nat) (b : Bool) (Q : VK) (W : Nat → Nat → Hp → Prop) : Prop := ∀ i m H, W i m H → (J.stop i H ∧ Q (.bl b) H) ∨ (J.go i H ∧ ∃ Nx : Hp → Prop, (∀ H', Nx H' → ∃ m', m' < m ∧ W (i + 1) m' H') ∧
  ∀ x H', J.yld i H x H' → gg x σ0 H' fun σ2 H2 => wipe σ2 vs = σ0 ∧ tt σ2 H2 fun c H3 => if c = true then te σ2 H3 fun y H5 => ∃ r : Bool, y = .bl r ∧ (if r = b then Nx H5 else Q (.bl r) H5) else Nx H3)
theorem seg_all {Ag : Around} (hc : X.calm = true) (hA : A.over (gcode elt tg iter ifs scope pos it ce) [] = Ag) (hco : ce.scope.isCoroutine = false) (hafp : ∀ b ∈ fp, a ≠ b) (T : Turn X.prog X.w X.K tg J fp it tn)
    (pg : PG (gblk X s4 H4 ce fp Ag) tg gg) (pt : PTs (gblk X s4 H4 ce fp Ag) ifs tt) (pe : PE (gblk X s4 H4 ce fp Ag) elt te) (hw : wipe σ0 vs = σ0) (turn : TurnG J gg tt te σ0 vs b Q W) :
    ∀ (m n i : Nat) (H : Hp) (s₀ s : Shared), m < n → SGo (gblk X s4 H4 ce fp Ag) fp a gobj g σ0 tn W i m H s →
      Seg (model X.prog X.w) A (fun n s₀ r s₁ => r = .ok .next ∧ PGe (gblk X s4 H4 ce fp Ag) a gobj g σ0 b Q n s₀ s₁) (YG (gblk X s4 H4 ce fp Ag) fp a gobj g σ0 tn W b Q) n s₀
        (gcode elt tg iter ifs scope pos it ce) ((model X.prog X.w).den (gcode elt tg iter ifs scope pos it ce)) [] s := by
  have stat : ∀ {σ' : L2.St} {H' : Hp} {s' : Shared}, Inv (gblk X s4 H4 ce fp Ag) [(a, gobj)] σ' H' s' → (∀ b ∈ fp, H' b = none) → ∀ b ∈ fp, FpOk (gblk X s4 H4 ce fp Ag) [(a, gobj)] H' b := fun {σ' H' s'} I' hn b hb =>
    ⟨hn b hb, (I'.ok.exf b hb).1, I'.ok.exfs b hb, .inl hb, fun x c e => (I'.ok.exf b hb).2 x c e, fun p hp => by
      have : p ∈ [(a, gobj)] := hp
      have : p = (a, gobj) := by simpa using this
      rw [this]
      exact hafp b hb⟩
  intro m
  induction m using Nat.strongRecOn with
  | ind m ih =>
    intro n i H s₀ s hmn hS
    obtain ⟨I, st, nf, w, gz⟩ := hS
    show Seg _ A _ _ n s₀ _ ((compTurn (.GeneratorExp elt [⟨tg, iter, ifs, 0⟩] scope pos) 0 (.ref it) .none ce).onRaise (leaving ce)) [] s
    rw [compTurn_gen, Sem.onRaise_eq_wrap]
    refine seg_bind_wrap (wpAny_standAt ?_)
    rcases turn i m H w with ⟨stop, qq⟩ | ⟨go, Nx, hNx, step⟩
    · refine seg_bind_wrap ?_
      rw [hA]
      refine wpAny_gsz gz (wpAny_mono (T.done (gblk X s4 H4 ce fp Ag) rfl rfl rfl hc i [(a, gobj)] s _ H (fun _ _ => False) I (stat I nf) st stop) (fun r s6 hr gz6 => ?_) fun _ _ z => z.elim)
      obtain ⟨hr, I6⟩ := hr
      subst hr
      exact seg_end (.ok .next) ⟨rfl, H, gz6, I6, qq⟩
    · refine seg_bind_wrap ?_
      rw [hA]
      refine wpAny_gsz gz (wpAny_mono (T.item (gblk X s4 H4 ce fp Ag) rfl rfl rfl hc i [(a, gobj)] s _ H (fun _ _ => False) I (stat I nf) st go) (fun r s6 hr gz6 => ?_) fun _ _ z => z.elim)
      obtain ⟨u, hr, h6⟩ := hr
      subst hr
      refine seg_bind_wrap ?_
      rw [hA]
      refine wpAny_gsz gz6 (wpAny_mono h6 (fun _ s7 h7 gz7 => ?_) fun _ _ z => z.elim)
      obtain ⟨x, H7, I7, r7, y7, st7, n7⟩ := h7
      have I7' := I7.pinned (stat I7 n7) (T.obj _ _ st7)
      refine seg_bind_wrap ?_
      rw [hA]
      refine wpAny_gsz gz7 (wpAny_mono (pg.run _ s7 _ H7 x u _ I7' r7 (step x H7 y7)) (fun _ s8 h8 gz8 => ?_) fun _ _ z => z.elim)
      obtain ⟨σ8, H8, I8, hw8, q8⟩ := h8
      refine seg_bind_wrap ?_
      rw [hA]
      refine wpAny_gsz gz8 (wpAny_mono (pt.run _ s8 σ8 H8 _ I8 q8) (fun c s9 h9 gz9 => ?_) fun _ _ z => z.elim)
      obtain ⟨H9, I9, q9⟩ := h9
      -- the turn's end
      have back : ∀ {s' : Shared} {H' : Hp}, Inv (gblk X s4 H4 ce fp Ag) ([(a, gobj)] ++ pinsAt fp s7.heap) σ8 H' s' → Inv (gblk X s4 H4 ce fp Ag) [(a, gobj)] σ0 H' s' ∧ tn (i + 1) s'.heap ∧ (∀ b ∈ fp, H' b = none) := fun {s' H'} I' => by
        have pin' : ∀ b ∈ fp, ∀ o, s7.heap.get? b = some o → s'.heap.get? b = some o ∧ H' b = none := fun b hb o e =>
          let z := I'.pin (b, o) (List.mem_append_right _ (List.mem_append_right _ (mem_pinsAt hb e)))
          ⟨z.1, z.2.1⟩
        have hl : σ0.length = σ8.length := by rw [← hw8, wipe_length]
        refine ⟨(I'.unpinned (pins := [(a, gobj)])).weak hl (fun j v e => ?_), T.keep _ _ _ st7 fun b hb o e => (pin' b hb o e).1, fun b hb => ?_⟩
        · rw [← hw8] at e
          exact (wipe_some e).1
        · obtain ⟨o, e, _⟩ := T.obj _ _ st7 b hb
          exact (pin' b hb o e).2
      cases c with
      | false =>
        simp only [Bool.false_eq_true, if_false] at q9 ⊢
        obtain ⟨k1, k2, k3⟩ := back I9
        obtain ⟨m', hm, w'⟩ := hNx _ q9
        exact seg_again rfl (ih m' hm n (i + 1) H9 s₀ s9 (by omega) ⟨k1, k2, k3, w', gz9⟩)
      | true =>
        simp only [if_true] at q9 ⊢
        have hy : ∀ v, yieldOut ce v = yieldValue v := fun v => by simp only [yieldOut, hco, Bool.false_eq_true, if_false]
        simp only [hy]
        obtain ⟨n, rfl⟩ : ∃ k, n = k + 1 := ⟨n - 1, by omega⟩
        rw [Sem.bind_eq_wrap', Sem.bind_eq_wrap', Sem.wrap_wrap, Sem.wrap_wrap]
        refine seg_wrap ?_
        rw [hA]
        refine wpAny_gsz gz9 (wpAny_mono (pe.run _ s9 σ8 H9 _ I9 q9) (fun y s10 h10 gz10 => ?_) fun _ _ z => z.elim)
        obtain ⟨yv, H10, I10, r10, r, hr, q10⟩ := h10
        subst hr
        obtain rfl : y = Value.bool r := r10
        obtain ⟨k1, k2, k3⟩ := back I10
        refine seg_at (seg_yield rfl rfl rfl ⟨r, H10, rfl, gz10, k1, ?_⟩)
        by_cases hr : r = b
        · rw [if_pos hr] at q10 ⊢
          intro s' wk
          obtain ⟨m', hm, w'⟩ := hNx _ q10
          exact seg_again rfl (ih m' hm n (i + 1) H10 s' s' (by omega) ⟨Inv.woke k1 wk, by rw [wk.heap]; exact k2, k3, w', wk.sz⟩)
        · rw [if_neg hr] at q10 ⊢
          exact q10
theorem seg_start {Ag : Around} (hc : X.calm = true) (hA : A.over (gcode elt tg iter ifs scope pos it ce) [] = Ag) (hco : ce.scope.isCoroutine = false) (hafp : ∀ b ∈ fp, a ≠ b) (T : Turn X.prog X.w X.K tg J fp it tn)
    (pg : PG (gblk X s4 H4 ce fp Ag) tg gg) (pt : PTs (gblk X s4 H4 ce fp Ag) ifs tt) (pe : PE (gblk X s4 H4 ce fp Ag) elt te) (hw : wipe σ0 vs = σ0) (turn : TurnG J gg tt te σ0 vs b Q W)
    (m n : Nat) (H : Hp) (s₀ s : Shared) (hmn : m < n) (hS : SGo (gblk X s4 H4 ce fp Ag) fp a gobj g σ0 tn W 0 m H s) :
      Seg (model X.prog X.w) A (fun n s₀ r s₁ => r = .ok .next ∧ PGe (gblk X s4 H4 ce fp Ag) a gobj g σ0 b Q n s₀ s₁) (YG (gblk X s4 H4 ce fp Ag) fp a gobj g σ0 tn W b Q) n s₀
        (.compStart (.GeneratorExp elt [⟨tg, iter, ifs, 0⟩] scope pos) 0 (.ref it) .none ce) ((model X.prog X.w).den (.compStart (.GeneratorExp elt [⟨tg, iter, ifs, 0⟩] scope pos) 0 (.ref it) .none ce)) [] s := by
  have loop := seg_all (X := X) (b := b) (W := W) (Q := Q) hc hA hco hafp T pg pt pe hw turn m n 0 H s₀ s hmn hS
  have st := hS.2.1
  show Seg _ A _ _ n s₀ _ ((compStart (.GeneratorExp elt [⟨tg, iter, ifs, 0⟩] scope pos) 0 (.ref it) .none ce).onRaise (leaving ce)) [] s
  unfold compStart
  rw [Sem.onRaise_eq_wrap]
  show Seg _ A _ _ n s₀ _ ((ask >>= _).wrap _ _ _ _) [] s
  refine seg_bind_wrap (wpAny_askSetting ?_)
  split
  · exact seg_again rfl loop
  · first
      | exact seg_bind_wrap (wpAny_rule (seg_bind_wrap (wpAny_standAt (seg_bind_wrap (T.self _ 0 _ _ _ st (seg_again rfl loop))))))
      | (refine seg_bind_wrap (wpAny_rule ?_)
         show Seg _ A _ _ n s₀ _ ((standAt iter.pos >>= _).wrap _ _ _ _) [] s
         exact seg_bind_wrap (wpAny_standAt (seg_bind_wrap (T.self _ 0 _ _ _ st (seg_again rfl loop)))))
end
end GnX
namespace GnX
open PySem PySem.Spec PyProof.Rows L2 GxR GenW
section
variable {Xg : Cx} {A0 : Around} {fp : List Addr} {a : Addr} {gobj : Obj} {g : Nat} {σ0 : L2.St} {tn : Nat → Heap → Prop} {W : Nat → Nat → Hp → Prop} {Q : VK} {R : Result → Shared → Prop}
/-- the generator waits -/
def Waits (Xg : Cx) (A : Around) (fp : List Addr) (a : Addr) (gobj : Obj) (g : Nat) (σ0 : L2.St) (tn : Nat → Heap → Prop) (W : Nat → Nat → Hp → Prop) (b : Bool) (Q : VK) (n : Nat) (s : Shared) : Prop :=
  ∃ (H : Hp) (gs : GenState), Inv Xg [(a, gobj)] σ0 H s ∧ s.gens[g]? = some gs ∧ ∀ s', Woke g s s' → gs.Goes (model Xg.prog Xg.w) A (fun n s₀ r s₁ => r = .ok .next ∧ PGe Xg a gobj g σ0 b Q n s₀ s₁) (YG Xg fp a gobj g σ0 tn W b Q) n (.send .none) s'
theorem woke_set {s : Shared} {g : Nat} {x : GenState} (hb : AllBare s.gens) (hx : x.bare = true) (hz : g < s.gens.size) : Woke g s (s.setGen g x) := by
  refine ⟨rfl, rfl, fun y hy => ?_, by rw [setGen_size]; exact hz⟩
  have hy : y ∈ s.gens.setIfInBounds g x := hy
  rcases Array.mem_or_eq_of_mem_setIfInBounds hy with h | h
  · exact hb y h
  · rw [h]; exact hx
theorem Woke.trans {g : Nat} {s s1 s2 : Shared} (x : Woke g s s1) (y : Woke g s1 s2) : Woke g s s2 := ⟨y.heap.trans x.heap, y.os.trans x.os, y.bare, y.sz⟩
theorem all_step (hh : A0.handled = none) (hroom : A0.depth < recursionLimit) (hgen : ∀ H s, Inv Xg [(a, gobj)] σ0 H s → s.heap.IsGen a g) (hR : ∀ s' H r, Inv Xg [(a, gobj)] σ0 H s' → Q (.bl r) H → R (.ok (.ret (.bool r))) s')
    (n : Nat) (s : Shared) (Wt : Waits Xg A0.in1.in1 fp a gobj g σ0 tn W true Q n s) (next : ∀ k s', n = k + 1 → Waits Xg A0.in1.in1 fp a gobj g σ0 tn W true Q k s' → codeAny (model Xg.prog Xg.w) A0 (.builtin "all.loop" ⟨[.ref a], []⟩) R s') :
    codeAny (model Xg.prog Xg.w) A0 (.builtin "all.loop" ⟨[.ref a], []⟩) R s := by
  obtain ⟨H, gs, I, hgs, hgo⟩ := Wt
  have gz : g < s.gens.size := (Array.getElem?_eq_some_iff.mp hgs).1
  refine codeAny_builtin F.entry_all_loop ?_
  rw [Around.under_plainId F.plain_all_loop _]
  show wpAny _ A0.in1 (pyNext (.ref a) >>= _) _ _ s
  refine wpAny_bind (wpAny_pyNext_genexpQ (A := A0.in1) (n := n) (P := PGe Xg a gobj g σ0 true Q) (Y := YG Xg fp a gobj g σ0 tn W true Q) hh I.nolimit hroom (hgen H s I) hgs (hgo _ (woke_set I.bare rfl gz)) (fun v s₁ gs' hb hv => ?_) (fun s₁ hp h' hk => ?_))
  · obtain ⟨r, H1, rfl, gz1, I1, q⟩ := hv
    have wk := woke_set I1.bare hb gz1
    refine wpAny_bind (wpAny_holding (wpAny_truthy_bool ?_))
    refine wpAny_bind (wpAny_letGo ?_)
    cases r with
      | true =>
        rw [if_pos rfl] at q
        rcases n with _ | k
        · exact (q s₁ ⟨rfl, rfl, I1.bare, gz1⟩).elim
        · simp only [if_true]
          refine wpAny_pure ⟨plainId_quiet F.plain_all_loop _, next k _ rfl ⟨H1, gs', Inv.woke I1 wk, ?_, fun s' w => q s' (wk.trans w)⟩⟩
          show (s₁.gens.setIfInBounds g gs')[g]? = some gs'
          simp [gz1]
      | false =>
        rw [if_neg (by decide)] at q
        simp only [Bool.false_eq_true, if_false]
        refine wpAny_bind (wpAny_rule (wpAny_pure ?_))
        exact hR _ H1 false (Inv.woke I1 wk) q
  · obtain ⟨H1, gz1, I1, q⟩ := hp
    refine wpAny_bind (wpAny_rule (wpAny_pure ?_))
    have I2 := Inv.woke I1 (woke_set I1.bare (x := .finished) rfl gz1)
    exact hR _ H1 true (I2.kept (t' := (s₁.setGen g .finished).toks) hk) q
theorem all_loop (hh : A0.handled = none) (hroom : A0.depth < recursionLimit) (hgen : ∀ H s, Inv Xg [(a, gobj)] σ0 H s → s.heap.IsGen a g) (hR : ∀ s' H r, Inv Xg [(a, gobj)] σ0 H s' → Q (.bl r) H → R (.ok (.ret (.bool r))) s') :
    ∀ (n : Nat) (s : Shared), Waits Xg A0.in1.in1 fp a gobj g σ0 tn W true Q n s → codeAny (model Xg.prog Xg.w) A0 (.builtin "all.loop" ⟨[.ref a], []⟩) R s
  | 0, s, Wt => all_step hh hroom hgen hR 0 s Wt fun k s' e _ => by cases e
  | n + 1, s, Wt => all_step hh hroom hgen hR (n + 1) s Wt fun k s' e w => by
    cases e
    exact all_loop hh hroom hgen hR n s' w
theorem any_step (hh : A0.handled = none) (hroom : A0.depth < recursionLimit) (hgen : ∀ H s, Inv Xg [(a, gobj)] σ0 H s → s.heap.IsGen a g) (hR : ∀ s' H r, Inv Xg [(a, gobj)] σ0 H s' → Q (.bl r) H → R (.ok (.ret (.bool r))) s')
    (n : Nat) (s : Shared) (Wt : Waits Xg A0.in1.in1 fp a gobj g σ0 tn W false Q n s) (next : ∀ k s', n = k + 1 → Waits Xg A0.in1.in1 fp a gobj g σ0 tn W false Q k s' → codeAny (model Xg.prog Xg.w) A0 (.builtin "any.loop" ⟨[.ref a], []⟩) R s') :
    codeAny (model Xg.prog Xg.w) A0 (.builtin "any.loop" ⟨[.ref a], []⟩) R s := by
  obtain ⟨H, gs, I, hgs, hgo⟩ := Wt
  have gz : g < s.gens.size := (Array.getElem?_eq_some_iff.mp hgs).1
  refine codeAny_builtin F.entry_any_loop ?_
  rw [Around.under_plainId F.plain_any_loop _]
  show wpAny _ A0.in1 (pyNext (.ref a) >>= _) _ _ s
  refine wpAny_bind (wpAny_pyNext_genexpQ (A := A0.in1) (n := n) (P := PGe Xg a gobj g σ0 false Q) (Y := YG Xg fp a gobj g σ0 tn W false Q) hh I.nolimit hroom (hgen H s I) hgs (hgo _ (woke_set I.bare rfl gz)) (fun v s₁ gs' hb hv => ?_) (fun s₁ hp h' hk => ?_))
  · obtain ⟨r, H1, rfl, gz1, I1, q⟩ := hv
    have wk := woke_set I1.bare hb gz1
    refine wpAny_bind (wpAny_holding (wpAny_truthy_bool ?_))
    refine wpAny_bind (wpAny_letGo ?_)
    cases r with
      | false =>
        rw [if_pos rfl] at q
        rcases n with _ | k
        · exact (q s₁ ⟨rfl, rfl, I1.bare, gz1⟩).elim
        · simp only [Bool.false_eq_true, if_false]
          refine wpAny_pure ⟨plainId_quiet F.plain_any_loop _, next k _ rfl ⟨H1, gs', Inv.woke I1 wk, ?_, fun s' w => q s' (wk.trans w)⟩⟩
          show (s₁.gens.setIfInBounds g gs')[g]? = some gs'
          simp [gz1]
      | true =>
        rw [if_neg (by decide)] at q
        simp only [if_true]
        refine wpAny_bind (wpAny_rule (wpAny_pure ?_))
        exact hR _ H1 true (Inv.woke I1 wk) q
  · obtain ⟨H1, gz1, I1, q⟩ := hp
    refine wpAny_bind (wpAny_rule (wpAny_pure ?_))
    have I2 := Inv.woke I1 (woke_set I1.bare (x := .finished) rfl gz1)
    exact hR _ H1 false (I2.kept (t' := (s₁.setGen g .finished).toks) hk) q
theorem any_loop (hh : A0.handled = none) (hroom : A0.depth < recursionLimit) (hgen : ∀ H s, Inv Xg [(a, gobj)] σ0 H s → s.heap.IsGen a g) (hR : ∀ s' H r, Inv Xg [(a, gobj)] σ0 H s' → Q (.bl r) H → R (.ok (.ret (.bool r))) s') :
    ∀ (n : Nat) (s : Shared), Waits Xg A0.in1.in1 fp a gobj g σ0 tn W false Q n s → codeAny (model Xg.prog Xg.w) A0 (.builtin "any.loop" ⟨[.ref a], []⟩) R s
  | 0, s, Wt => any_step hh hroom hgen hR 0 s Wt fun k s' e _ => by cases e
  | n + 1, s, Wt => any_step hh hroom hgen hR (n + 1) s Wt fun k s' e w => by
    cases e
    exact any_loop hh hroom hgen hR n s' w
end
end GnX
namespace GnX
open PySem PySem.Spec PyProof.Rows L2 GxR GenW
section
variable {X : Cx}
/-- the generator's around -/
theorem ag_room {k : Nat} {A : Around} {elt tg iter : Expr} {ifs : List Expr} {scope : Scope} {pos : Pos} {it : Addr} {ce : Env} (r : Room (k + 1) A) : Room k (A.in1.in1.over (gcode elt tg iter ifs scope pos it ce) []) :=
  ⟨r.hd, by have := r.dp; show A.depth + 0 + 1 + 3 * k + 5 < _; omega, by have := r.un; show A.units + 1 + 1 + 0 + _ + 16 * k + 200 < _; first | omega | (show A.units + 1 + 1 + 0 + 3 + 16 * k + 200 < _; omega)⟩
theorem ag_frames {A : Around} {elt tg iter : Expr} {ifs : List Expr} {scope : Scope} {pos : Pos} {it : Addr} {ce : Env} {fr : List Env} (h : A.frames = some fr) : (A.in1.in1.over (gcode elt tg iter ifs scope pos it ce) []).frames = some (ce :: fr) := by
  obtain ⟨hd, d, f2, gs, u⟩ := A
  cases h
  first
    | rfl
    | simp [Around.over, Around.in1, marksOver, frameCount, unitsOf, envsOf, guardsOf, pushEnvs, pushGuards, Code.envs, Code.env?, Code.isFrame, Code.weight, Code.frames]
end
end GnX
namespace GnX
open PySem PySem.Spec PyProof.Rows L2 GxR GenW
/-- all, any of a generator expression: P the def's code table; behind it the table may have grown -/
def tAnyG (P : Addr) (b : Bool) (ti : TI) (gg : TG) (tt : TT) (te : TE) (vs : List Nat) : TE := fun σ H Q => ti σ H fun J H1 => TabG H1 P ∧ ∀ H2, Tabbed P H1 H2 → ∃ W : Nat → Nat → Hp → Prop, (∃ m, W 0 m H2) ∧ TurnG J gg tt te (wipe σ vs) vs b Q W
/-- a generator expression was made -/
def Made (X : Cx) (pins : List (Addr × Obj)) (σ : L2.St) (b : Bool) (Q : VK) (u : Value) (s5 : Shared) : Prop :=
  ∃ (s4 : Shared) (H4 : Hp) (ce : Env) (fp : List Addr) (Ag : Around) (a : Addr) (gobj : Obj) (g : Nat) (σ0 : L2.St) (tn : Nat → Heap → Prop) (W : Nat → Nat → Hp → Prop) (n : Nat), u = .ref a ∧ Waits (gblk X s4 H4 ce fp Ag) X.A.in1.in1 fp a gobj g σ0 tn W b Q n s5 ∧ s5.heap.IsGen a g ∧
    (∀ H s, Inv (gblk X s4 H4 ce fp Ag) [(a, gobj)] σ0 H s → s.heap.IsGen a g) ∧ (∀ H s, Inv (gblk X s4 H4 ce fp Ag) [(a, gobj)] σ0 H s → Inv X pins σ H s)
section
variable {X : Cx} {elt tg iter : Expr} {ifs : List Expr} {scope : Scope} {own : List (Str × Nat)} {gpos : Pos} {c P : Addr} {ti : TI} {gg : TG} {tt : TT} {te : TE} {b : Bool} {k : Nat}
theorem gen_make {pins : List (Addr × Obj)} {σ : L2.St} {H : Hp} {s : Shared} {Q : VK} (hc : X.calm = true) (hr : Room (k + 1) X.A) (hN : X.N.Nodup) (TB : TabB X.base X.mg c P) (hcode : X.env.code = .ref c) (ok : GScope X.N X.env.scope scope own) (hi : PI X tg iter ti)
    (hg : ∀ (s : Shared) (H : Hp) (C : Addr) (cl : List (Str × Addr)) (code : Value) (fp : List Addr) (Ag : Around), Room k Ag → PG (gblk X s H (genEnv scope cl C code builtinsNs X.env) fp Ag) tg gg)
    (ht : ∀ (s : Shared) (H : Hp) (C : Addr) (cl : List (Str × Addr)) (code : Value) (fp : List Addr) (Ag : Around), Room k Ag → PTs (gblk X s H (genEnv scope cl C code builtinsNs X.env) fp Ag) ifs tt)
    (he : ∀ (s : Shared) (H : Hp) (C : Addr) (cl : List (Str × Addr)) (code : Value) (fp : List Addr) (Ag : Around), Room k Ag → PE (gblk X s H (genEnv scope cl C code builtinsNs X.env) fp Ag) elt te)
    (hs : ∀ v, genFold iter X.env v = pure v) (I : Inv X pins σ H s) (h : tAnyG P b ti gg tt te (own.map (·.2)) σ H Q) :
    wpAny (model X.prog X.w) X.A (eval (.GeneratorExp elt [⟨tg, iter, ifs, 0⟩] scope gpos) X.env) (Made X pins σ b Q) X.xe s := by
  have hfree : ∀ y ∈ scope.names, y.2 = .free → ∃ c, X.env.cells.lookup y.1 = some c := fun y hy e => by
    rcases ok.blk.free y hy e with z | z
    · exact I.ok.has _ (.inl z)
    · exact I.ok.has _ (.inr z)
  refine wpAny_GeneratorExp_make ok.co (closure_ok hfree) ok.cell ok.dot ok.blk.kind (by have := hr.dp; omega) ?_ hs
  refine thn (hi.run pins s σ H _ I h) fun xv s1 hx => thn hx fun itv s2 h2 => ?_
  obtain ⟨it, fp, tn, J, H1, rfl, I2, T, st2, f2, ⟨ps, hP, htr⟩, q⟩ := h2
  refine ⟨I2.nolimit, ?_⟩
  have hPs : s2.heap.get? P = some { cls := .none, data := .fields ps } := I2.hok P _ hP
  have cd : PySem.W.CodeHd s2.heap c P := TB.code.keeps fun b u e => I2.bk b u e
  have sz : ∀ b ∈ fp, b < s2.heap.objs.size := fun b hb => by
    obtain ⟨o, e, _⟩ := T.obj _ _ st2 b hb
    exact Heap.lt_size e
  have nfP : ∀ b ∈ fp, b ≠ P := fun b hb z => by
    have := (f2 b hb).1
    rw [z, hP] at this
    cases this
  have cont : ∀ (code : Value) (h3 : Heap) (tk : Nat) (ps' : Array Value), Heap.ExtBut P s2.heap h3 → s2.heap.objs.size ≤ h3.objs.size → h3.get? P = some { cls := .none, data := .fields ps' } → (∃ more, ps' = ps ++ more) → TriplesOk ps'.toList →
      wpAny (model X.prog X.w) X.A (builtinsFor X.env.globals X.env.builtins) (fun bi s₄ => ∀ h', h'.Ns s₄.heap.objs.size (fun y => if y = ".0" then some (.ref it) else none) → Heap.SameBut s₄.heap.objs.size (s₄.heap.push { cls := .type "frame", data := .dict #[] }) h' →
        Made X pins σ b Q (.ref h'.objs.size) { s₄ with
          gens := s₄.gens.push (.fresh (.compStart (.GeneratorExp elt [⟨tg, iter, ifs, 0⟩] scope gpos) 0 (.ref it) .none (genEnv scope (cloFrom X.env.cells scope.names []) s₄.heap.objs.size code bi X.env))),
          toks := s₄.toks + 1 + 1 + 1,
          heap := h'.push { cls := .type "generator", data := .fields #[.int s₄.gens.size 0, .str "<genexpr>" (s₄.toks + 1), .str (X.env.qual ++ "<genexpr>") (s₄.toks + 1 + 1)] } }) X.xe { s2 with heap := h3, toks := tk } := by
    intro code h3 tk ps' hx hsz hP3 hmore ht3
    obtain ⟨more, em⟩ := hmore
    have J4 : Inv X pins σ (upd H1 P (.tbl (ps ++ more))) { s2 with heap := h3, toks := tk } := inv_tab (g' := s2.gens) (d' := s2.drawn) (t' := tk) I2 hP (fun b o hb e => hx b o hb e) (by rw [← em]; exact hP3) I2.bare
    obtain ⟨bm, ob, e1, e2, e3, e4, e5, e6, e7, e8⟩ := TB.bm
    refine wpAny_builtinsFor (m := X.mg) (by rw [I2.ok.glob]; exact (I2.mod.glob.keeps I2.bk).extBut hx TB.gP) e1 e2 (hx _ _ e4 (I2.bk _ _ e5)) e6 e7 e8 ?_
    intro h' hn' hs'
    generalize hs4 : ({ s2 with heap := h3, toks := tk } : Shared) = s4 at J4 hn' hs' ⊢
    have h4 : s4.heap = h3 := by rw [← hs4]
    obtain ⟨W, ⟨m0, w0⟩, turn⟩ := q (upd H1 P (.tbl (ps ++ more))) ⟨⟨ps ++ more, upd_same, by rw [← em]; exact ht3⟩, fun b hb => upd_ne hb⟩
    have f4 : ∀ b ∈ fp, FpOk X pins (upd H1 P (.tbl (ps ++ more))) b ∧ b < s4.heap.objs.size := fun b hb => by
      refine ⟨⟨?_, (f2 b hb).2⟩, by rw [h4]; exact Nat.lt_of_lt_of_le (sz b hb) hsz⟩
      rw [upd_ne (nfP b hb)]
      exact (f2 b hb).1
    have szh : h'.objs.size = s4.heap.objs.size + 1 := by rw [hs'.1, Heap.size_push]
    have kp' : ∀ b o, s4.heap.get? b = some o → h'.get? b = some o := fun b o e => hs'.extBut b o (Nat.ne_of_lt (Heap.lt_size e)) (Heap.get?_push_of_some _ e)
    have rg : ∀ (ce : Env), Room k (X.A.in1.in1.over (gcode elt tg iter ifs scope gpos it ce) []) := fun ce => ag_room hr
    generalize hce : genEnv scope (cloFrom X.env.cells scope.names []) s4.heap.objs.size code builtinsNs X.env = ce
    have Ig := gblk_start (tk := s4.toks + 1 + 1 + 1) (gs := .fresh (.compStart (.GeneratorExp elt [⟨tg, iter, ifs, 0⟩] scope gpos) 0 (.ref it) .none ce)) (gobj := { cls := .type "generator", data := .fields #[.int s4.gens.size 0, .str "<genexpr>" (s4.toks + 1), .str (X.env.qual ++ "<genexpr>") (s4.toks + 1 + 1)] })
      (code := code) (A := X.A.in1.in1.over (gcode elt tg iter ifs scope gpos it ce) []) J4 ok hN f4 (rg ce).hd (by rw [hce]; exact ag_frames J4.ok.frames) hn' hs' rfl (fun v z => by cases z) rfl
    rw [hce] at Ig
    have pg := hg s4 (upd H1 P (.tbl (ps ++ more))) s4.heap.objs.size (cloFrom X.env.cells scope.names []) code fp _ (rg ce)
    have pt := ht s4 (upd H1 P (.tbl (ps ++ more))) s4.heap.objs.size (cloFrom X.env.cells scope.names []) code fp _ (rg ce)
    have pe := he s4 (upd H1 P (.tbl (ps ++ more))) s4.heap.objs.size (cloFrom X.env.cells scope.names []) code fp _ (rg ce)
    rw [hce] at pg pt pe
    have hco : ce.scope.isCoroutine = false := by rw [← hce]; exact ok.co
    have nf4 : ∀ b ∈ fp, (upd H1 P (.tbl (ps ++ more))) b = none := fun b hb => (f4 b hb).1.1
    have st5 : tn 0 (h'.push { cls := .type "generator", data := .fields #[.int s4.gens.size 0, .str "<genexpr>" (s4.toks + 1), .str (X.env.qual ++ "<genexpr>") (s4.toks + 1 + 1)] }) := T.keep _ _ _ st2 fun b hb o e =>
      Heap.get?_push_of_some _ (kp' b o (by rw [h4]; exact hx b o (nfP b hb) e))
    have isg : ∀ {H s}, Inv (gblk X s4 (upd H1 P (.tbl (ps ++ more))) ce fp (X.A.in1.in1.over (gcode elt tg iter ifs scope gpos it ce) [])) [(h'.objs.size, { cls := .type "generator", data := .fields #[.int s4.gens.size 0, .str "<genexpr>" (s4.toks + 1), .str (X.env.qual ++ "<genexpr>") (s4.toks + 1 + 1)] })] (wipe σ (own.map (·.2))) H s → s.heap.IsGen h'.objs.size s4.gens.size := fun {H s} I' =>
      ⟨_, _, _, (I'.pin (h'.objs.size, _) (List.mem_append_right _ List.mem_cons_self)).1, rfl, rfl, rfl⟩
    refine ⟨s4, _, ce, fp, _, h'.objs.size, _, s4.gens.size, wipe σ (own.map (·.2)), tn, W, m0 + 1, rfl, ⟨_, _, Ig, Array.getElem?_push_size .., fun s' wk => ⟨rfl, ?_⟩⟩, isg Ig, fun H s I' => isg I', fun H s I' => ?_⟩
    · exact seg_start (X := X) (b := b) (W := W) (Q := Q) hc rfl hco (fun b hb z => by have z2 := (f4 b hb).2; rw [← z, szh] at z2; exact absurd z2 (Nat.not_lt.mpr (Nat.le_succ _))) T pg pt pe TX.wipe_wipe turn m0 (m0 + 1) _ s' s' (Nat.lt_succ_self _) ⟨Inv.woke Ig wk, by rw [wk.heap]; exact st5, nf4, w0, wk.sz⟩
    · exact J4.call' (ch := fp) I'.os I'.base I'.hok I'.bare fun b hb => ⟨(f4 b hb).1.2.2.2.1, (f4 b hb).1.2.1, (f4 b hb).1.2.2.2.2.1, (f4 b hb).1.2.2.2.2.2⟩
  cases hf : codeAmong gpos ps.toList with
  | none =>
    refine wpAny_genexprCodeX hcode (cd.code hPs htr) (cd.tab hPs) hf fun c' h' tk hx hge hlt hco' _ htab' _ => ?_
    obtain ⟨o1, us, f1, tf, fl, tg1, inF, tx, tt1, op, _, _, _, _, _, _, _, _, _, htr2, _⟩ := hco'
    exact cont _ h' tk _ hx (Nat.le_trans hge (Nat.le_of_lt hlt)) htab'.2 ⟨_, rfl⟩ htr2
  | some cv =>
    refine wpAny_genexprCode_hit hcode (cd.code hPs htr) hf ?_
    exact cont cv s2.heap s2.toks ps (Heap.ExtBut.refl _ _) (Nat.le_refl _) hPs ⟨#[], by simp⟩ htr
theorem pe_allG {p pos : Pos} (hc : X.calm = true) (hr : Room (k + 1) X.A) (hN : X.N.Nodup) (hgl : Gl X "all") (hm : X.mg "all" = none) (hb : bootBuiltins "all" = some (.builtin "all")) (TB : TabB X.base X.mg c P) (hcode : X.env.code = .ref c) (ok : GScope X.N X.env.scope scope own) (hi : PI X tg iter ti)
    (hg : ∀ (s : Shared) (H : Hp) (C : Addr) (cl : List (Str × Addr)) (code : Value) (fp : List Addr) (Ag : Around), Room k Ag → PG (gblk X s H (genEnv scope cl C code builtinsNs X.env) fp Ag) tg gg)
    (ht : ∀ (s : Shared) (H : Hp) (C : Addr) (cl : List (Str × Addr)) (code : Value) (fp : List Addr) (Ag : Around), Room k Ag → PTs (gblk X s H (genEnv scope cl C code builtinsNs X.env) fp Ag) ifs tt)
    (he : ∀ (s : Shared) (H : Hp) (C : Addr) (cl : List (Str × Addr)) (code : Value) (fp : List Addr) (Ag : Around), Room k Ag → PE (gblk X s H (genEnv scope cl C code builtinsNs X.env) fp Ag) elt te)
    (hs : ∀ v, genFold iter X.env v = pure v)
    (hst : starEach [.GeneratorExp elt [⟨tg, iter, ifs, 0⟩] scope gpos] X.env = (false, eval (.GeneratorExp elt [⟨tg, iter, ifs, 0⟩] scope gpos) X.env) :: starEach [] X.env := by rfl) :
    PE X (.Call (.Name "all" p) [.GeneratorExp elt [⟨tg, iter, ifs, 0⟩] scope gpos] [] pos) (tAnyG P true ti gg tt te (own.map (·.2))) := by
  refine ⟨fun pins s σ H Q I h => ?_⟩
  refine wpAny_Call_Name_kw (ld_blt I hgl hm hb ?_)
  refine PyProof.Rows.callWith_builtin1 ?_ hst (by rfl)
  rw [hst]
  show wpAny _ _ (spliced ((false, eval (.GeneratorExp elt [⟨tg, iter, ifs, 0⟩] scope gpos) X.env) :: backTo pos (starEach [] X.env))) _ _ s
  refine Calls.spliced_cons (thn (gen_make hc hr hN TB hcode ok hi hg ht he hs I h) fun u s5 hM => ?_)
  obtain ⟨s4, H4, ce, fp, Ag, a, gobj, g, σ0, tn, W, n, rfl, Wt, isg, hgen, back⟩ := hM
  refine Calls.spliced_nil ?_
  refine call_function_tree F.kind_all F.plain_all F.entry_all (F.args_all1 _) ?_
  unfold Builtin.«all»
  refine wpAny_bind (m := oneArg "all" _) (wpAny_pure ?_)
  refine wpAny_bind (wpAny_pyIter_gen isg ?_)
  exact wpAny_pure ⟨plainId_quiet F.plain_all_loop _, all_loop (Xg := gblk X s4 H4 ce fp Ag) hr.hd (by have := hr.dp; omega) hgen (fun s' H' r I' q => ⟨.bl r, H', back _ _ I', rfl, q⟩) n s5 Wt⟩
theorem pe_anyG {p pos : Pos} (hc : X.calm = true) (hr : Room (k + 1) X.A) (hN : X.N.Nodup) (hgl : Gl X "any") (hm : X.mg "any" = none) (hb : bootBuiltins "any" = some (.builtin "any")) (TB : TabB X.base X.mg c P) (hcode : X.env.code = .ref c) (ok : GScope X.N X.env.scope scope own) (hi : PI X tg iter ti)
    (hg : ∀ (s : Shared) (H : Hp) (C : Addr) (cl : List (Str × Addr)) (code : Value) (fp : List Addr) (Ag : Around), Room k Ag → PG (gblk X s H (genEnv scope cl C code builtinsNs X.env) fp Ag) tg gg)
    (ht : ∀ (s : Shared) (H : Hp) (C : Addr) (cl : List (Str × Addr)) (code : Value) (fp : List Addr) (Ag : Around), Room k Ag → PTs (gblk X s H (genEnv scope cl C code builtinsNs X.env) fp Ag) ifs tt)
    (he : ∀ (s : Shared) (H : Hp) (C : Addr) (cl : List (Str × Addr)) (code : Value) (fp : List Addr) (Ag : Around), Room k Ag → PE (gblk X s H (genEnv scope cl C code builtinsNs X.env) fp Ag) elt te)
    (hs : ∀ v, genFold iter X.env v = pure v)
    (hst : starEach [.GeneratorExp elt [⟨tg, iter, ifs, 0⟩] scope gpos] X.env = (false, eval (.GeneratorExp elt [⟨tg, iter, ifs, 0⟩] scope gpos) X.env) :: starEach [] X.env := by rfl) :
    PE X (.Call (.Name "any" p) [.GeneratorExp elt [⟨tg, iter, ifs, 0⟩] scope gpos] [] pos) (tAnyG P false ti gg tt te (own.map (·.2))) := by
  refine ⟨fun pins s σ H Q I h => ?_⟩
  refine wpAny_Call_Name_kw (ld_blt I hgl hm hb ?_)
  refine PyProof.Rows.callWith_builtin1 ?_ hst (by rfl)
  rw [hst]
  show wpAny _ _ (spliced ((false, eval (.GeneratorExp elt [⟨tg, iter, ifs, 0⟩] scope gpos) X.env) :: backTo pos (starEach [] X.env))) _ _ s
  refine Calls.spliced_cons (thn (gen_make hc hr hN TB hcode ok hi hg ht he hs I h) fun u s5 hM => ?_)
  obtain ⟨s4, H4, ce, fp, Ag, a, gobj, g, σ0, tn, W, n, rfl, Wt, isg, hgen, back⟩ := hM
  refine Calls.spliced_nil ?_
  refine call_function_tree F.kind_any F.plain_any F.entry_any (F.args_any1 _) ?_
  unfold Builtin.«any»
  refine wpAny_bind (m := oneArg "any" _) (wpAny_pure ?_)
  refine wpAny_bind (wpAny_pyIter_gen isg ?_)
  exact wpAny_pure ⟨plainId_quiet F.plain_any_loop _, any_loop (Xg := gblk X s4 H4 ce fp Ag) hr.hd (by have := hr.dp; omega) hgen (fun s' H' r I' q => ⟨.bl r, H', back _ _ I', rfl, q⟩) n s5 Wt⟩
end
end GnX

end

section
set_option Elab.async false
set_option linter.all false
set_option maxRecDepth 100000
set_option maxHeartbeats 2000000
namespace TX
open PySem L2 Evl PyProof.Rows
/-! ### all, any of a generator expression: b the answer at the end -/
def aLoop (vs : List Nat) (put : D → List Sl → SO) (t : EvT) (e : EvE) (b : Bool) : List D → List Sl → O Bool
  | [], st => .ok b st
  | d :: r, st => match put d (wipeS st vs) with
    | .nx st1 => (match t st1 with
      | .ok true st2 => (match e st2 with
        | .ok z st3 => (match z.1 with
          | .bl c => if noOwn st3 vs = true then (if c = b then aLoop vs put t e b r st3 else .ok c st3) else .no
          | _ => .no)
        | _ => .no)
      | .ok false st2 => if noOwn st2 vs = true then aLoop vs put t e b r st2 else .no
      | _ => .no)
    | _ => .no
def eAll (b : Bool) (vs : List Nat) (it : EvI) (put : D → List Sl → SO) (t : EvT) (e : EvE) : EvE := fun st => (it st).bind fun ds st1 => if noOwn st1 vs = true ∧ ds.length ≤ 100000 then (match aLoop vs put t e b ds st1 with
  | .ok c st2 => if st2.length = st1.length then .ok (.bl c, false) (backS st1 st2 vs) else .no
  | _ => .no) else .no
section
variable {K : PySem.W.Frag} {Xs : List Addr} {st : List Sl} {σ : L2.St} {H H2 : Hp} {P : Addr}
theorem rel_tab (r : Rel K Xs st σ H) (hP : P ∈ tabs K) (h : GxR.Tabbed P H H2) : Rel K Xs st σ H2 ∧ vis Xs st σ H2 = vis Xs st σ H ∧ (∀ x ∈ Xs, Kp (H x) (H2 x)) ∧ ∀ a, H2 a = none → H a = none := by
  obtain ⟨hX, ps, hp, _⟩ := r.xs.tb P hP
  obtain ⟨⟨ps', hp', ht'⟩, he⟩ := h
  have ev : vis Xs st σ H2 = vis Xs st σ H := by
    funext a
    by_cases ha : a ∈ hid Xs st σ
    · show msk _ _ a = msk _ _ a
      rw [msk_in ha, msk_in ha]
    · show msk _ _ a = msk _ _ a
      rw [msk_out ha, msk_out ha]
      exact he a fun z => ha (by rw [z]; exact List.mem_append_right _ hX)
  have kp : ∀ x ∈ Xs, Kp (H x) (H2 x) := fun x hx => by
    by_cases e : x = P
    · rw [e]; exact .inr ⟨ps, ps', hp, hp', ht'⟩
    · exact .inl (he x e)
  refine ⟨⟨r.len, r.nd, fun i d hi => by rw [ev]; exact r.pu i d hi, fun i ds hi => ?_, r.xs.kp kp⟩, ev, kp, fun a ha => ?_⟩
  · obtain ⟨p, vs, q1, q2, q3⟩ := r.ow i ds hi
    have : p ≠ P := fun z => by rw [z, hp] at q2; cases q2
    exact ⟨p, vs, q1, (he p this).trans q2, by rw [ev]; exact q3⟩
  · by_cases e : a = P
    · rw [e, hp'] at ha; cases ha
    · rw [he a e] at ha; exact ha
end
section
variable {w : Wi} {vs : List Nat}
theorem all_of {K : PySem.W.Frag} {it : EvI} {put : D → List Sl → SO} {g : TG} {t : EvT} {e : EvE} {tt : TT} {b : Bool} {P : Addr} {σ : L2.St} {H : Hp} {Q : VK} (hP : P ∈ tabs K) (hg : TgS K [] g put) (hp : PutO put) (hw : GW vs g) (ht : ∀ σ H R, tT K (wF w.cl) t σ H R → tt σ H R) (h : tE K w (eAll b vs it put t e) σ H Q) :
    GnX.tAnyG P b (tI K w it) g tt (tE K (wF w.cl) e) vs σ H Q := by
  obtain ⟨Xs, st, rel, h⟩ := h
  unfold eAll at h
  show tI K w it σ H _
  refine ⟨Xs, st, rel, (rdo_bind h).mono (fun ds st1 h1 J H1 C p1 S c => ?_) fun _ _ _ x => x⟩
  refine ⟨(p1.rel.xs.tb P hP).2, fun Hb hT => ?_⟩
  split at h1
  · next hc =>
    have hn := noOwn_of hc.1
    cases eL : aLoop vs put t e b ds st1 with
    | ex _ _ _ => rw [eL] at h1; exact h1.elim
    | no => rw [eL] at h1; exact h1.elim
    | ok cR stE =>
      rw [eL] at h1
      dsimp only at h1
      split at h1
      · next hlE =>
        -- the end, from a state whose wiped slots stand
        have fin : ∀ {H' : Hp}, Rel K Xs (wipeS stE vs) (wipe σ vs) H' → Ex (vis Xs st1 σ H1) (vis Xs (wipeS stE vs) (wipe σ vs) H') → (∀ x ∈ Xs, Kp (H1 x) (H' x)) → (∀ a, H' a = none → H1 a = none) → OwLess st1 (wipeS stE vs) → Q (.bl cR) H' := fun {H'} r' ex' xs' dm' ol' => by
          obtain ⟨u1, u2⟩ := rel_unwipe p1.rel hn r' hlE ex'
          have tp : Post K Xs st1 σ H1 (backS st1 stE vs) H' := ⟨u1, (by rw [← u2] at ex'; exact ex'), xs', dm', fun j es hj => by
            by_cases hm2 : j ∈ vs
            · have hlt : j < stE.length := by have := (List.getElem?_eq_some_iff.mp hj).1; rw [backS_len] at this; exact this
              rw [backS_in hm2 hlt hlE.symm] at hj
              exact ⟨es, hj⟩
            · rw [backS_get hm2] at hj
              exact ol' j es (by rw [wipeS_get hm2]; exact hj)⟩
          exact h1 (.bl cR) H' (p1.trans tp) (.old (.bl cR))
        refine ⟨fun i m H' => m = ds.length - i ∧ ∃ stc, stc.length = st1.length ∧ noOwn stc vs = true ∧ Rel K Xs (wipeS stc vs) (wipe σ vs) H' ∧ Ex (vis Xs st1 σ H1) (vis Xs (wipeS stc vs) (wipe σ vs) H') ∧ (∀ x ∈ Xs, Kp (H1 x) (H' x)) ∧ (∀ a, H' a = none → H1 a = none) ∧ OwLess st1 (wipeS stc vs) ∧
          aLoop vs put t e b (ds.drop i) stc = .ok cR stE, ⟨ds.length, ?_⟩, ?_⟩
        · -- the start
          obtain ⟨rb, evb, kpb, dmb⟩ := rel_tab p1.rel hP hT
          obtain ⟨r2, e2⟩ := rel_wipe (vs := vs) (τ := wipe σ vs) rb hn (wipe_length σ vs).symm (fun i hi => (wipe_get hi).symm)
          refine ⟨rfl, st1, rfl, hc.1, r2, by rw [e2, evb]; exact Ex.refl _, kpb, dmb, fun i es hi => ?_, by rw [List.drop_zero]; exact eL⟩
          by_cases hm : i ∈ vs
          · have hlt : i < st1.length := by have := (List.getElem?_eq_some_iff.mp hi).1; rw [wipeS_len] at this; exact this
            rw [wipeS_in hm hlt] at hi; cases hi
          · rw [wipeS_get hm] at hi; exact ⟨es, hi⟩
        · rintro i m H' ⟨hm, stc, hl, hno, r', ex', xs', dm', ol', eC⟩
          by_cases hi : i < ds.length
          · right
            have cM : C (vis Xs (wipeS stc vs) (wipe σ vs) H') := S.mono _ _ ex' c
            refine ⟨S.go i H' _ msk_ex cM hi, fun Hn => ∃ stc, stc.length = st1.length ∧ noOwn stc vs = true ∧ Rel K Xs (wipeS stc vs) (wipe σ vs) Hn ∧ Ex (vis Xs st1 σ H1) (vis Xs (wipeS stc vs) (wipe σ vs) Hn) ∧ (∀ x ∈ Xs, Kp (H1 x) (Hn x)) ∧ (∀ a, Hn a = none → H1 a = none) ∧ OwLess st1 (wipeS stc vs) ∧
              aLoop vs put t e b (ds.drop (i + 1)) stc = .ok cR stE, fun Hn q => ⟨ds.length - (i + 1), by omega, rfl, q⟩, fun x Hy hy => ?_⟩
            have hd : ds[i]? = some ds[i] := List.getElem?_eq_getElem hi
            obtain ⟨q1, q2⟩ := S.yld Xs (wipeS stc vs) (wipe σ vs) i H' x Hy ds[i] r' cM hd hy
            rw [List.drop_eq_getElem_cons hi] at eC
            unfold aLoop at eC
            have hput : put ds[i] (wipeS stc vs) ≠ .no := fun z => by rw [z] at eC; cases eC
            obtain ⟨s1, e1, o1⟩ := hp _ _ hput
            rw [e1] at eC
            dsimp only at eC
            have R0 : RelS K Xs [] (fun _ => none) (wipeS stc vs) (wipe σ vs) Hy := ⟨q1.rel, fun _ _ _ _ _ _ => rfl, fun _ _ => rfl⟩
            -- what a turn leaves, in a state of the target's
            have step : ∀ {s3 : List Sl} {σ2 : L2.St} {H3 H4 : Hp}, PostS K Xs [] (fun _ => none) (wipeS stc vs) (wipe σ vs) Hy s1 σ2 H3 → wipe σ2 vs = wipe σ vs → Post K Xs s1 σ2 H3 s3 H4 → noOwn s3 vs = true →
                Rel K Xs (wipeS s3 vs) (wipe σ vs) H4 ∧ Ex (vis Xs st1 σ H1) (vis Xs (wipeS s3 vs) (wipe σ vs) H4) ∧ s3.length = st1.length ∧ OwLess st1 (wipeS s3 vs) ∧ (∀ x ∈ Xs, Kp (H1 x) (H4 x)) ∧ (∀ a, H4 a = none → H1 a = none) := fun {s3 σ2 H3 H4} a1 a2 a3 a4 => by
              have hl2 : σ2.length = (wipe σ vs).length := by rw [← a2, wipe_length]
              obtain ⟨b1, b2⟩ := rel_wipe (vs := vs) (τ := wipe σ vs) a3.rel (noOwn_of a4) hl2 (fun j hj => by rw [← a2, wipe_get hj])
              refine ⟨b1, ex'.trans (by rw [b2]; exact (q1.ex.trans a1.ex).trans a3.ex), ?_, fun j es hj => ?_, fun y hy => ?_, fun a ha => dm' a (q1.dom a (a1.dom a (a3.dom a ha)))⟩
              · have := a3.rel.len
                rw [this, hl2, ← r'.len, wipeS_len, hl]
              · by_cases hm2 : j ∈ vs
                · have hlt : j < s3.length := by have := (List.getElem?_eq_some_iff.mp hj).1; rw [wipeS_len] at this; exact this
                  rw [wipeS_in hm2 hlt] at hj; cases hj
                · rw [wipeS_get hm2] at hj
                  obtain ⟨es2, k2⟩ := a3.ol j es hj
                  obtain ⟨es3, k3⟩ := o1 j es2 k2
                  exact ol' j es3 k3
              · exact (xs' y hy).trans ((q1.xs y hy).trans ((a1.xs y hy).trans (a3.xs y hy)))
            have hwp : wipe (wipe σ vs) vs = wipe σ vs := wipe_wipe
            refine hw x (wipe σ vs) Hy _ hwp (hg w Xs (fun _ => none) (wipeS stc vs) (wipe σ vs) Hy ⟨fun σ2 H3 => wipe σ2 vs = wipe σ vs → _, fun _ _ => True, fun _ _ => True, fun _ _ => True⟩ x ds[i] R0 q2 ?_)
            rw [e1]
            intro σ2 H3 a1 a2
            refine ht σ2 H3 _ ⟨Xs, s1, a1.rel.rel, ?_⟩
            cases et : t s1 with
            | ex _ _ _ => rw [et] at eC; cases eC
            | no => rw [et] at eC; cases eC
            | ok tb s2 =>
              rw [et] at eC
              intro H4 p2
              cases tb with
              | false =>
                rw [if_neg (by simp)]
                dsimp only at eC
                split at eC
                · next a4 =>
                  obtain ⟨b1, b3, b4, b5, b6, b7⟩ := step a1 a2 p2 a4
                  exact ⟨s2, b4, a4, b1, b3, b6, b7, b5, eC⟩
                · cases eC
              | true =>
                rw [if_pos rfl]
                dsimp only at eC
                refine ⟨Xs, s2, p2.rel, ?_⟩
                cases ee : e s2 with
                | ex _ _ _ => rw [ee] at eC; cases eC
                | no => rw [ee] at eC; cases eC
                | ok z s3 =>
                  rw [ee] at eC
                  dsimp only at eC
                  intro y H5 p3 v3
                  have dp := v3.dp
                  split at eC
                  · next cz hz =>
                    rw [hz] at dp
                    cases dp
                    split at eC
                    · next a4 =>
                      obtain ⟨b1, b3, b4, b5, b6, b7⟩ := step a1 a2 (p2.trans p3) a4
                      refine ⟨cz, rfl, ?_⟩
                      by_cases hcb : cz = b
                      · rw [if_pos hcb] at eC ⊢
                        exact ⟨s3, b4, a4, b1, b3, b6, b7, b5, eC⟩
                      · rw [if_neg hcb] at eC ⊢
                        cases eC
                        exact fin b1 b3 b6 b7 b5
                    · cases eC
                  · cases eC
          · left
            have ed : ds.drop i = [] := List.drop_eq_nil_of_le (by omega)
            rw [ed] at eC
            have eC' : (O.ok b stc : O Bool) = .ok cR stE := eC
            cases eC'
            exact ⟨S.stop i H' _ msk_ex (S.mono _ _ ex' c) (by omega), fin r' ex' xs' dm' ol'⟩
      · exact h1.elim
  · exact h1.elim
end
end TX
namespace TX
open PySem L2 Evl PyProof.Rows
def gscC (N : List Str) (sc scope : Scope) (own : List (Str × Nat)) : Bool := blkC N sc scope own && (!scope.isCoroutine && (scope.names.all (fun y => y.2 != .cell) && (scope.names.lookup (".0" : Str) == some NameKind.local)))
theorem gsc_by {N : List Str} {sc scope : Scope} {own : List (Str × Nat)} (h : gscC N sc scope own = true) : GnX.GScope N sc scope own := by
  unfold gscC at h
  simp only [Bool.and_eq_true, Bool.not_eq_true', beq_iff_eq] at h
  obtain ⟨h1, h2, h3, h4⟩ := h
  refine ⟨blkOk_by h1, h2, fun y hy e => ?_, h4⟩
  have := List.all_eq_true.mp h3 y hy
  rw [e] at this
  exact absurd this (by decide)
section
variable {X : Cx} {w : Wi} {elt tg iter : Expr} {scope : Scope} {own : List (Str × Nat)} {pos p gpos : Pos} {it : EvI} {g : TG} {put : D → List Sl → SO} {t : EvT} {e : EvE} {c P : Addr} {k : Nat}
theorem boot_all : bootBuiltins "all" = some (.builtin "all") := by decide +kernel
theorem boot_any2 : bootBuiltins "any" = some (.builtin "any") := by decide +kernel
section
variable (hc : X.calm = true) (hr : Room (k + 1) X.A) (hN : X.N.Nodup) (TB : GxR.TabB X.base X.mg c P) (hP : P ∈ tabs X.K) (hi : PI X tg iter (tI X.K w it)) (ok : GnX.GScope X.N X.env.scope scope own) (hw : GW (own.map (·.2)) g) (hgS : TgS X.K [] g put) (hp : PutO put)
    (hg : ∀ (s : Shared) (H : Hp) (C : Addr) (cl : List (Str × Addr)) (code : Value) (fp : List Addr) (Ag : Around), Room k Ag → PG (GnX.gblk X s H (genEnv scope cl C code builtinsNs X.env) fp Ag) tg g)
include hc hr hN TB hP hi ok hw hgS hp hg
theorem x_all (he : ∀ (s : Shared) (H : Hp) (C : Addr) (cl : List (Str × Addr)) (code : Value) (fp : List Addr) (Ag : Around), Room k Ag → PE (GnX.gblk X s H (genEnv scope cl C code builtinsNs X.env) fp Ag) elt (tE X.K (wF w.cl) e))
    (hm : X.mg "all" = none) (hcode : X.env.code = .ref c := by rfl) (hgl : Gl X "all" := by rfl) (hs : ∀ v, genFold iter X.env v = pure v := by intro _; rfl) :
    PE X (.Call (.Name "all" p) [.GeneratorExp elt [⟨tg, iter, [], 0⟩] scope gpos] [] pos) (tE X.K w (eAll true (own.map (·.2)) it put tTrue e)) :=
  PE.of (GnX.pe_allG hc hr hN hgl hm boot_all TB hcode ok hi hg (fun _ _ _ _ _ _ _ _ => pts_nil) he hs) fun σ H Q h => all_of hP hgS hp hw (fun σ H R q => by
    obtain ⟨Xs, st, rel, q⟩ := q
    exact q H (Post.refl rel)) h
theorem x_any (he : ∀ (s : Shared) (H : Hp) (C : Addr) (cl : List (Str × Addr)) (code : Value) (fp : List Addr) (Ag : Around), Room k Ag → PE (GnX.gblk X s H (genEnv scope cl C code builtinsNs X.env) fp Ag) elt (tE X.K (wF w.cl) e))
    (hm : X.mg "any" = none) (hcode : X.env.code = .ref c := by rfl) (hgl : Gl X "any" := by rfl) (hs : ∀ v, genFold iter X.env v = pure v := by intro _; rfl) :
    PE X (.Call (.Name "any" p) [.GeneratorExp elt [⟨tg, iter, [], 0⟩] scope gpos] [] pos) (tE X.K w (eAll false (own.map (·.2)) it put tTrue e)) :=
  PE.of (GnX.pe_anyG hc hr hN hgl hm boot_any2 TB hcode ok hi hg (fun _ _ _ _ _ _ _ _ => pts_nil) he hs) fun σ H Q h => all_of hP hgS hp hw (fun σ H R q => by
    obtain ⟨Xs, st, rel, q⟩ := q
    exact q H (Post.refl rel)) h
variable {cnd : Expr} (ht : ∀ (s : Shared) (H : Hp) (C : Addr) (cl : List (Str × Addr)) (code : Value) (fp : List Addr) (Ag : Around), Room k Ag → PT (GnX.gblk X s H (genEnv scope cl C code builtinsNs X.env) fp Ag) cnd (tT X.K (wF w.cl) t))
include ht
theorem x_allIf (he : ∀ (s : Shared) (H : Hp) (C : Addr) (cl : List (Str × Addr)) (code : Value) (fp : List Addr) (Ag : Around), Room k Ag → PE (GnX.gblk X s H (genEnv scope cl C code builtinsNs X.env) fp Ag) elt (tE X.K (wF w.cl) e))
    (hm : X.mg "all" = none) (hcode : X.env.code = .ref c := by rfl) (hgl : Gl X "all" := by rfl) (hs : ∀ v, genFold iter X.env v = pure v := by intro _; rfl) :
    PE X (.Call (.Name "all" p) [.GeneratorExp elt [⟨tg, iter, [cnd], 0⟩] scope gpos] [] pos) (tE X.K w (eAll true (own.map (·.2)) it put t e)) :=
  PE.of (GnX.pe_allG hc hr hN hgl hm boot_all TB hcode ok hi hg (fun s H C cl code fp Ag r => pts_one (ht s H C cl code fp Ag r)) he hs) fun σ H Q h => all_of hP hgS hp hw (fun σ H R q => q) h
theorem x_anyIf (he : ∀ (s : Shared) (H : Hp) (C : Addr) (cl : List (Str × Addr)) (code : Value) (fp : List Addr) (Ag : Around), Room k Ag → PE (GnX.gblk X s H (genEnv scope cl C code builtinsNs X.env) fp Ag) elt (tE X.K (wF w.cl) e))
    (hm : X.mg "any" = none) (hcode : X.env.code = .ref c := by rfl) (hgl : Gl X "any" := by rfl) (hs : ∀ v, genFold iter X.env v = pure v := by intro _; rfl) :
    PE X (.Call (.Name "any" p) [.GeneratorExp elt [⟨tg, iter, [cnd], 0⟩] scope gpos] [] pos) (tE X.K w (eAll false (own.map (·.2)) it put t e)) :=
  PE.of (GnX.pe_anyG hc hr hN hgl hm boot_any2 TB hcode ok hi hg (fun s H C cl code fp Ag r => pts_one (ht s H C cl code fp Ag r)) he hs) fun σ H Q h => all_of hP hgS hp hw (fun σ H R q => q) h
end
end
/-! ### defs with generator expressions -/
/-- the def's code object and its table, among those that are known -/
def TabF (K : PySem.W.Frag) (fd : FuncData) : Prop := ∃ c P, fd.code = .ref c ∧ (c, P) ∈ cTs K
/-- the tables behind a base -/
def TabsB (K : PySem.W.Frag) (base : Heap) (mg : Str → Option Value) : Prop := ∀ p ∈ cTs K, GxR.TabB base mg p.1 p.2
section
variable {P : Program} {w : World} {K : PySem.W.Frag} {mg : Str → Option Value} {base : Heap}
theorem def_okT {x qual : Str} {params : Arguments} {body : List Stmt} {scope : Scope} {f : Addr} {fd : FuncData} {N ps : List Str} {k : Nat} {cl : Nat → Addr} {Ps : List Nat} {eb : EvS} (F : FunD K x qual params body scope [] [] f fd) (S : FnScope N ps scope) (tf : TabF K fd) (tb : TabsB K base mg)
    (hb : ∀ (c T : Addr), T ∈ tabs K → GxR.TabB base mg c T → ∀ (A : Around) (outer : List Env) (s : Shared) (H : Hp) (E : XK), Room k (A.deeper (envOfC qual scope s.heap.objs.size f (.ref c))) →
      PSs (cxOf (L2.CX P w) P w K mg base N qual scope f (.ref c) A outer s H E) body (tS K ⟨fun c dx _ H' => E c dx H', cl⟩ Ps eb)) :
    FnOk P w K mg base (L2.CX P w) (k + 1) f fd ps (spF K cl (defEv N.length ps.length Ps eb)) := by
  obtain ⟨c, T, hc, hT⟩ := tf
  obtain ⟨oc, od, dV, kV, doc, pm, an, cdv, ct, osl, rfl, lk, hcd, _, _⟩ := F.ex
  have e : cdv = .ref c := hc
  subst e
  exact fn_of lk hcd S (fun vs H Q E h => spF_len h) fun A outer s H vs Q E hr h => ⟨_, hb c T (List.mem_map.mpr ⟨_, hT, rfl⟩) (tb _ hT) A outer s H E hr, def_reads h⟩
theorem def_ok0T {x qual : Str} {params : Arguments} {body : List Stmt} {scope : Scope} {f : Addr} {fd : FuncData} {N ps : List Str} {k : Nat} {cl : Nat → Addr} {Ps : List Nat} {eb : EvS} (F : FunD K x qual params body scope [] [] f fd) (S : FnScope N ps scope) (tf : TabF K fd) (tb : TabsB K base mg)
    (hb : ∀ (c T : Addr), T ∈ tabs K → GxR.TabB base mg c T → ∀ (A : Around) (outer : List Env) (s : Shared) (H : Hp) (E : XK), Room k (A.deeper (envOfC qual scope s.heap.objs.size f (.ref c))) →
      PSs (cxOf CX0 P w K mg base N qual scope f (.ref c) A outer s H E).nox body (tS K (wF cl) Ps eb)) :
    FnOk P w K mg base CX0 (k + 1) f fd ps (sp0 K cl (defEv N.length ps.length Ps eb)) := by
  obtain ⟨c, T, hc, hT⟩ := tf
  obtain ⟨oc, od, dV, kV, doc, pm, an, cdv, ct, osl, rfl, lk, hcd, _, _⟩ := F.ex
  have e : cdv = .ref c := hc
  subst e
  exact fn_of lk hcd S (fun vs H Q E h => spF_len h) fun A outer s H vs Q E hr h => ⟨_, PSs.nox (hb c T (List.mem_map.mpr ⟨_, hT, rfl⟩) (tb _ hT) A outer s H E hr), def_reads h⟩
end
end TX

end

section
set_option Elab.async false
set_option linter.all false
set_option maxRecDepth 100000
set_option maxHeartbeats 2000000
namespace TX
open PySem L2 Evl PyProof.Rows
/-! ### slices -/
def cutD (ds : List D) (lo hi : Option Int) : List D := (ds.drop (HT.sIx ds.length 0 lo)).take (HT.sIx ds.length ds.length hi - HT.sIx ds.length 0 lo)
def fSl : D → Option Int → Option Int → Option R1 := fun x lo hi => match x with
  | .tup ds => some (.tup (cutD ds lo hi), false)
  | .lst ds => some (.lst (cutD ds lo hi), true)
  | _ => none
abbrev EvO := List Sl → O (Option Int)
def oNone : EvO := fun st => .ok none st
def oSome (e : EvE) : EvO := fun st => (e st).bind fun z st1 => match z.1 with
  | .int i => .ok (some i) st1
  | _ => .no
def eSl (a : EvE) (lo hi : EvO) : EvE := fun st => (a st).bind fun x st1 => (lo st1).bind fun l st2 => (hi st2).bind fun h st3 => match fSl x.1 l h with
  | some z => .ok z st3
  | none => .no
def tOp (K : PySem.W.Frag) (w : Wi) (o : EvO) : TO := fun σ H Q => ∃ Xs st, Rel K Xs st σ H ∧ Rdo (o st) (fun i st' => ∀ H', Post K Xs st σ H st' H' → Q i H') (exW K w Xs st σ H)
section
variable {X : Cx} {w : Wi} {e a : Expr} {ev ea : EvE} {lo hi : Option Expr} {l h : EvO} {p2 pos : Pos}
theorem xo_none : PO X none (tOp X.K w oNone) := ⟨fun pins s σ H Q I hq => by
  obtain ⟨Xs, st, rel, hq⟩ := hq
  exact po_none.run pins s σ H Q I (hq H (Post.refl rel))⟩
theorem xo_some (he : PE X e (tE X.K w ev)) : PO X (some e) (tOp X.K w (oSome ev)) := ⟨fun pins s σ H Q I hq => by
  refine (po_some he).run pins s σ H Q I ?_
  obtain ⟨Xs, st, rel, hq⟩ := hq
  refine tE_seq rel hq fun x H1 rx st1 p1 v1 h1 => ?_
  have dp := v1.dp
  revert h1 dp
  cases rx.1 with
  | int i =>
    intro h1 dp
    cases dp
    exact ⟨i, rfl, h1 H1 p1⟩
  | _ => intro h1; exact h1.elim⟩
theorem dpAll_cut {K : PySem.W.Frag} {H : Hp} {vs : List V} {ds : List D} {lo hi : Option Int} (h : DqAll K H vs ds) : DqAll K H (cutV vs lo hi) (cutD ds lo hi) := by
  unfold cutV cutD
  rw [dpAll_len h]
  exact dpAll_take _ (dpAll_drop _ h)
theorem x_sl (ha : PE X a (tE X.K w ea)) (hl : PO X lo (tOp X.K w l)) (hu : PO X hi (tOp X.K w h)) : PE X (.Subscript a (.Slice lo hi none p2) pos) (tE X.K w (eSl ea l h)) :=
  PE.of (pe_slice (SlR.or sl_tupA sl_list) ha hl hu) fun σ H Q hq => by
    obtain ⟨Xs, st, rel, hq⟩ := hq
    refine tE_seq rel hq fun x H1 rx st1 p1 v1 h1 => ?_
    refine ⟨Xs, st1, p1.rel, (rdo_bind h1).mono (fun i st2 g H2 p2 => ?_) fun _ _ _ z => z⟩
    refine ⟨Xs, st2, p2.rel, (rdo_bind g).mono (fun u st3 g3 H3 p3 => ?_) fun _ _ _ z => exW_on p2 z⟩
    have p13 := (p1.trans p2).trans p3
    have dp := dp_mono (p2.ex.trans p3.ex) v1.dp
    revert g3 dp
    cases rx.1 with
    | tup ds =>
      intro g3 dp
      have g3 : ∀ v H', Post X.K Xs st σ H st3 H' → Val X.K Xs σ H st3 H' v (.tup (cutD ds i u), false) → Q v H' := g3
      cases dp with
      | tup q1 q2 =>
        rename_i a1 xs1
        refine Or.inl ⟨a1, xs1, rfl, ex_t msk_ex q1, fun hw => ?_, fun hw p hp => ?_⟩
        · have e : cutD ds i u = ds := by
            unfold cutD
            rw [dpAll_len q2] at hw
            rw [hw.1, hw.2]
            simp
          refine g3 _ H3 p13 (.old ?_)
          rw [e]
          exact .tup q1 q2
        · exact g3 _ _ (p13.trans (rel_new p13.rel hp)) ((val_newT p13.rel hp (dpAll_cut q2)).of p13)
    | lst ds =>
      intro g3 dp
      have g3 : ∀ v H', Post X.K Xs st σ H st3 H' → Val X.K Xs σ H st3 H' v (.lst (cutD ds i u), true) → Q v H' := g3
      cases dp with
      | lst q1 q2 =>
        rename_i a1 xs1
        refine Or.inr ⟨a1, xs1, rfl, SqL.of (msk_ex _ _ q1), fun p hp => ?_⟩
        exact g3 _ _ (p13.trans (rel_new p13.rel hp)) ((val_newL p13.rel hp (dpAll_cut q2)).of p13)
    | _ => intro g3; exact g3.elim
end
end TX
/-! ### xs[::-1] -/
namespace PySem
namespace RevT
open PySem.W PySem.Calls PyProof.Rows PySem.Spec L2
theorem pick_back (items : Array Value) : ((List.range items.size).filterMap fun (k : Nat) => items[(((items.size : Int) - 1) + (k : Int) * (-1)).toNat]?).toArray = items.toList.reverse.toArray := by
  rw [← krv_pick]
  unfold slicePick
  rw [krv_bounds]
  show _ = ((sliceRange ((items.size : Int) - 1) (-1) (-1)).filterMap (items[·]?)).toArray
  rw [krv_sliceRange, List.filterMap_map]
  have e : (fun (k : Nat) => items[(((items.size : Int) - 1) + (k : Int) * (-1)).toNat]?) = (fun x => items[x]?) ∘ fun k => items.size - 1 - k := by
    funext k
    have : (((items.size : Int) - 1) + (k : Int) * (-1)).toNat = items.size - 1 - k := by omega
    show items[(((items.size : Int) - 1) + (k : Int) * (-1)).toNat]? = items[items.size - 1 - k]?
    rw [this]
  rw [e]
theorem places_back (n : Nat) : Builtin.Slice.slicePlaces ((n : Int) - 1) (-1) (-1) = n := by
  unfold Builtin.Slice.slicePlaces
  rw [if_neg (by decide)]
  by_cases h : (n : Int) - 1 > -1
  · rw [if_pos h]
    have : ((n : Int) - 1 - -1 - 1) / (- -1) + 1 = (n : Int) := by
      rw [show (- -1 : Int) = 1 by decide, Int.ediv_one]
      omega
    rw [this]
    exact Int.toNat_natCast n
  · rw [if_neg h]
    have : n = 0 := by omega
    subst this
    rfl
section
variable {prog : Program} {w : World} {A : Around} {E : Value → Shared → Prop} {s : Shared}
theorem applied_back {sl : Addr} {n : Nat} {u : Tok} {Q : Int × Int × Nat → Shared → Prop} (hs : s.heap.IsSliceOf sl .none .none (.int (-1) u)) (h : Q ((n : Int) - 1, -1, n) s) :
    wpAny (model prog w) A (Builtin.Slice.sliceApplied (.ref sl) (pure (n : Int))) Q E s := by
  obtain ⟨os, hos, hcs, hds⟩ := id hs
  unfold Builtin.Slice.sliceApplied Builtin.Slice.sliceFields
  refine wpAny_bind (wpAny_bind (wpAny_field hos hds (x := .none) rfl (wpAny_bind (wpAny_field hos hds (x := .none) rfl (wpAny_bind (wpAny_field hos hds (x := .int (-1) u) rfl (wpAny_pure ?_)))))))
  refine wpAny_bind (slicePart_int ?_)
  show wpAny _ _ (if ((-1 : Int) == 0) = true then _ else _) _ _ s
  rw [if_neg (by decide)]
  refine wpAny_bind (slicePart_none (wpAny_bind (slicePart_none (wpAny_bind (wpAny_pure ?_)))))
  show wpAny _ _ (pure ((n : Int) - 1, (-1 : Int), Builtin.Slice.slicePlaces ((n : Int) - 1) (-1) (-1))) _ _ s
  rw [places_back]
  exact wpAny_pure h
theorem get_back {t sl : Addr} {items : Array Value} {u : Tok} {Q : Value → Shared → Prop} (ht : IsTup s.heap t items) (hs : s.heap.IsSliceOf sl .none .none (.int (-1) u))
    (h : Q (.ref s.heap.objs.size) { s with heap := s.heap.push { cls := .type "tuple", data := .seq items.toList.reverse.toArray } }) (hsz : items.size ≤ sizeLine) : wpAny (model prog w) A (getItem (.ref t) (.ref sl)) Q E s := by
  have hok : sizeOk (.seq items.toList.reverse.toArray) := by
    show items.toList.reverse.toArray.size ≤ sizeLine
    rw [List.size_toArray, List.length_reverse, Array.length_toList]
    exact hsz
  obtain ⟨os, hos, hcs, hds⟩ := id hs
  have hT : s.TypeIs (.ref sl) "slice" := ⟨os, hos, hcs⟩
  unfold getItem
  try with_reducible refine wpAny_holding ?_
  first | refine wpAny_bind (wpAny_pure ?_) | skip
  refine wpAny_bind (wpAny_sequenceKey ht.typeIs (by decide) ?_)
  refine wpAny_bind (wpAny_callSpecial?_slot (name := Str.ofString "__getitem__") ht.typeIs slot_tuple_getitem (wpAny_call_entry slot_tuple_getitem ht.typeIs entry_tuple_getitem ?_ (args_tuple_getitem _ _)))
  show wpAny _ _ (Builtin.Tuple.tupleItemsOf (.ref t) >>= _) _ _ s
  refine wpAny_bind (tupleItemsOf_ ht ?_)
  refine wpAny_bind (wpAny_typeOf hT ?_)
  rw [if_pos (by decide)]
  refine wpAny_bind (applied_back (n := items.size) hs ?_)
  show wpAny _ _ (if (((items.size : Int) - 1) == 0 && (-1 : Int) == 1 && items.size == items.size) = true then _ else _) _ _ s
  have no : ¬ ((((items.size : Int) - 1) == 0 && (-1 : Int) == 1 && items.size == items.size) = true) := by simp
  rw [if_neg no, pick_back items]
  first
    | exact wpAny_bind (m := Builtin.Tuple.tupleExact _) (wpAny_newObj_type (wpAny_pure ⟨_, rfl, wpAny_pure h⟩) hok)
    | exact wpAny_bind (m := Builtin.Tuple.tupleExact _) (wpAny_newObj_type (wpAny_bind (wpAny_pure (wpAny_pure ⟨_, rfl, wpAny_pure h⟩))) hok)
    | exact wpAny_bind (wpAny_bind (m := Builtin.Tuple.tupleExact _) (wpAny_newObj_type (wpAny_pure (wpAny_pure ⟨_, rfl, wpAny_pure h⟩)) hok))
    | exact wpAny_bind (wpAny_bind (m := Builtin.Tuple.tupleExact _) (wpAny_newObj_type (wpAny_pure ⟨_, rfl, wpAny_pure h⟩) hok))
end
end RevT
end PySem
namespace L2
open PySem PySem.Spec PyProof.Rows
section
variable {X : Cx}
def tRevA (K : PySem.W.Frag) (te : TE) : TE := fun σ H Q => te σ H fun x H1 => ∃ a xs, x = .ref a ∧ SqT K H1 a xs ∧ ∀ p, H1 p = none → Q (.ref p) (upd H1 p (.tup xs.reverse))
theorem pe_revA {e : Expr} {te : TE} {k : Nat} {p1 p2 p3 pos : Pos} (he : PE X e te) : PE X (.Subscript e (.Slice none none (some (.UnaryOp .USub (.Constant (.int 1) k p1) p2)) p3) pos) (tRevA X.K te) := by
  refine ⟨fun pins s σ H Q I h => ?_⟩
  refine Subscript_ (thn (he.run pins s σ H _ I h) fun v s1 ⟨x, H1, I1, r1, q1⟩ => ?_)
  obtain ⟨a, xs, ex, hx, q⟩ := q1
  subst ex
  cases r1
  have hst : PO X (some (.UnaryOp .USub (.Constant (.int 1) k p1) p2)) (tPart (tUn (rU fun i => .int (-i)) (tC (.int 1)))) := po_some (pe_un un_neg pe_int)
  refine wpAny_Slice (thn (po_none.run pins s1 σ H1 (fun o H2 => o = none ∧ H2 = H1) I1 ⟨rfl, rfl⟩) fun vl s2 ⟨l, H2, I2, pl, el, e2⟩ => ?_)
  subst el e2
  refine thn (po_none.run pins s2 σ H2 (fun o H3 => o = none ∧ H3 = H2) I2 ⟨rfl, rfl⟩) fun vu s3 ⟨u, H3, I3, pu, eu, e3⟩ => ?_
  subst eu e3
  refine thn (hst.run pins s3 σ H3 (fun o H4 => o = some (-1) ∧ H4 = H3) I3 ⟨1, rfl, -1, rfl, rfl, rfl⟩) fun vs s4 ⟨o, H4, I4, ps, eo, e4⟩ => ?_
  subst eo e4
  cases pl
  cases pu
  cases ps
  rename_i tk hcatch
  have I5 : Inv X pins σ H4 { s4 with heap := s4.heap.push { cls := .type "slice", data := .fields #[.none, .none, .int (-1) tk] } } := I4.kept (t' := s4.toks) fun b ob q => Heap.get?_push_of_some _ q
  obtain ⟨its, r, ht, hz⟩ := I5.tuple hx
  have hlen := r.length
  show wpAny (model X.prog X.w) X.A (subscriptTail e (.Slice none none (some (.UnaryOp .USub (.Constant (.int 1) k p1) p2)) p3) (.ref a) (.ref s4.heap.objs.size)) (EP X pins σ Q) X.xe { s4 with heap := s4.heap.push { cls := .type "slice", data := .fields #[.none, .none, .int (-1) tk] } }
  refine tail_any (ops := [.ref a, .ref s4.heap.objs.size]) ht.typeIs (PyProof.Rows.slot_tuple_getitem.lookup) ?_ (by with_unfolding_all rfl)
  refine PySem.RevT.get_back ht (Heap.IsSliceOf.new _ _ _ _) ?_ (by rw [List.size_toArray]; omega)
  refine ⟨.ref _, _, I5.laid (t' := s4.toks) (o := .tup xs.reverse) (fun b ob q => Heap.get?_push_of_some _ q) (Nat.le_refl _) ?_, rfl, q _ (I5.hok.fresh (Nat.le_refl _))⟩
  exact ⟨by rw [List.length_reverse]; exact hz, _, by simpa using r.reverse, ⟨_, Heap.get?_push_size _ rfl, rfl, 0, rfl⟩⟩
end
end L2
namespace TX
open PySem L2 Evl PyProof.Rows
def fRev : D → Option R1 := fun x => match x with
  | .tup ds => some (.tup ds.reverse, false)
  | _ => none
section
variable {X : Cx} {w : Wi} {e : Expr} {ev : EvE} {k : Nat} {p1 p2 p3 pos : Pos}
theorem dpAll_rev {K : PySem.W.Frag} {H : Hp} : ∀ {vs : List V} {ds : List D}, DqAll K H vs ds → DqAll K H vs.reverse ds.reverse
  | _, _, .nil => .nil
  | _, _, .cons h r => by
    rw [List.reverse_cons, List.reverse_cons]
    exact dpAll_append (dpAll_rev r) (.cons h .nil)
theorem x_rev (he : PE X e (tE X.K w ev)) : PE X (.Subscript e (.Slice none none (some (.UnaryOp .USub (.Constant (.int 1) k p1) p2)) p3) pos) (tE X.K w (eUn fRev ev)) :=
  PE.of (pe_revA he) fun σ H Q h => by
    obtain ⟨Xs, st, rel, h⟩ := h
    refine tE_seq rel h fun x H1 rx st1 p1 v1 h1 => ?_
    have dp := v1.dp
    revert h1 dp
    cases rx.1 with
    | tup ds =>
      intro h1 dp
      have h1 : ∀ v H', Post X.K Xs st σ H st1 H' → Val X.K Xs σ H st1 H' v (.tup ds.reverse, false) → Q v H' := h1
      cases dp with
      | tup q1 q2 => exact ⟨_, _, rfl, ex_t msk_ex q1, fun p hp => h1 _ _ (p1.trans (rel_new p1.rel hp)) ((val_newT p1.rel hp (dpAll_rev q2)).of p1)⟩
    | _ => intro h1; exact h1.elim
end
end TX
namespace TX
open PySem L2 Evl PyProof.Rows
/-! ### xs[i], xs[j] = a, b -/
/-- one item stored, then f -/
def itemC (i : Nat) (ix : EvE) (d : D) (f : EvS) : EvS := fun st => match slD st[i]? with
  | none => .no
  | some _ => (ix st).toS fun k st2 => match st2[i]?, k.1 with
    | some (.ow ds), .int n => match ixN ds.length n with
      | some j => f (st2.set i (.ow (ds.set j d)))
      | none => .no
    | _, _ => .no
def sItems2 (i : Nat) (ix1 ix2 : EvE) (a : EvA) : EvS := fun st => (a st).toS fun ds st1 => match ds with
  | [d, e] => itemC i ix1 d (itemC i ix2 e fun s => .nx s) st1
  | _ => .no
section
variable {X : Cx} {w : Wi} {P : List Nat} {pos : Pos} {K : PySem.W.Frag} {Xs : List Addr} {B : Hp} {Dn : Ends} {st0 : List Sl} {σ0 : L2.St} {H0 H : Hp} {st : List Sl} {σ : L2.St}
theorem item_of {i : Nat} {ix : EvE} {d : D} {f : EvS} {v : V} {R : L2.St → Hp → Prop} (r : RelS K Xs P B st σ H) (dv : Dq K (vis Xs st σ H) v d) (h : RdS K w Xs P B st σ H Dn (itemC i ix d f st))
    (hf : ∀ st' H', PostS K Xs P B st σ H st' σ H' → RdS K w Xs P B st σ H Dn (f st') → R σ H') : gSub (fun σ H Q => ∃ u, σ[i]? = some (some u) ∧ Q u H) (tE K w ix) rSetL v σ H R := by
  unfold itemC at h
  split at h
  · exact h.elim
  · next d0 e0 =>
    obtain ⟨u, e1, _⟩ := slD_at r.rel e0
    refine ⟨u, e1, tE_S r h fun k H2 kz st2 p2 q2 v2 h2 => ?_⟩
    split at h2
    · next ds n es ek =>
      obtain ⟨a, us, e2, e3, e4⟩ := q2.rel.rel.ow i ds es
      have eu : u = .ref a := by rw [e1] at e2; cases e2; rfl
      subst eu
      have kd := v2.dp
      rw [ek] at kd
      cases kd
      cases ej : ixN ds.length n with
      | none => rw [ej] at h2; exact h2.elim
      | some j =>
        rw [ej] at h2
        refine ⟨a, us, n, j, rfl, rfl, e3, by rw [dpAll_len e4]; exact ej, ?_⟩
        exact hf _ _ (q2.trans (relS_write q2.rel es e2 e3 (dpAll_set (dp_mono q2.ex dv) j e4))) h2
    · exact h2.elim
variable {X : Cx}
theorem xs_items2 (i : Nat) {x : Str} {ix1 ix2 : Expr} {es : List Expr} {ei1 ei2 : EvE} {ev : EvA} {n1 n2 t1 t2 tp tp2 : Pos} {k k2 : Nat} (ha : PA X es (tA X.K w ev)) (hx1 : PE X ix1 (tE X.K w ei1)) (hx2 : PE X ix2 (tE X.K w ei2)) (hc : X.calm = true) (hN : X.N[i]? = some x := by rfl) (hv : Vis X.env.scope x := by first | exact Or.inl rfl | exact Or.inr (Or.inl rfl) | exact Or.inr (Or.inr rfl))
    (hd : (x == ("__debug__" : Str)) = false := by decide) (hcd : (x == ("__classdict__" : Str)) = false := by decide)
    (ha1 : ∀ v, assign (.Subscript (.Name x n1) ix1 t1) X.env v = (do
      let ov ← holding [v] (eval (.Name x n1) X.env)
      let iv ← holding [v, ov] (eval ix1 X.env)
      standAt t1
      holding [v, ov, iv] (setItem ov iv v)
      release [v, ov, iv] []) := by intro _; rfl)
    (ha2 : ∀ v, assign (.Subscript (.Name x n2) ix2 t2) X.env v = (do
      let ov ← holding [v] (eval (.Name x n2) X.env)
      let iv ← holding [v, ov] (eval ix2 X.env)
      standAt t2
      holding [v, ov, iv] (setItem ov iv v)
      release [v, ov, iv] []) := by intro _; rfl)
    (hs1 : (assignEach [.Subscript (.Name x n1) ix1 t1, .Subscript (.Name x n2) ix2 t2] X.env).map (·.2) = assign (.Subscript (.Name x n1) ix1 t1) X.env :: (assignEach [.Subscript (.Name x n2) ix2 t2] X.env).map (·.2) := by rfl)
    (hs2 : (assignEach [.Subscript (.Name x n2) ix2 t2] X.env).map (·.2) = assign (.Subscript (.Name x n2) ix2 t2) X.env :: (assignEach [] X.env).map (·.2) := by rfl)
    (hn : (assignEach [.Subscript (.Name x n1) ix1 t1, .Subscript (.Name x n2) ix2 t2] X.env).length = 2 := by rfl) (hst : (assignEach [.Subscript (.Name x n1) ix1 t1, .Subscript (.Name x n2) ix2 t2] X.env).findIdx? (·.1) = none := by rfl)
    (hs : swapsWithSole [.Tuple [.Subscript (.Name x n1) ix1 t1, .Subscript (.Name x n2) ix2 t2] k tp] (.Tuple es k2 tp2) pos.line X.env = pure false := by rfl) (hw : swappedStores [.Tuple [.Subscript (.Name x n1) ix1 t1, .Subscript (.Name x n2) ix2 t2] k tp] (.Tuple es k2 tp2) X.env = pure none := by rfl)
    (h1 : (assignEach [.Tuple [.Subscript (.Name x n1) ix1 t1, .Subscript (.Name x n2) ix2 t2] k tp] X.env).map (·.2) = [assign (.Tuple [.Subscript (.Name x n1) ix1 t1, .Subscript (.Name x n2) ix2 t2] k tp) X.env] := by rfl) :
    PS X (.Assign [.Tuple [.Subscript (.Name x n1) ix1 t1, .Subscript (.Name x n2) ix2 t2] k tp] (.Tuple es k2 tp2) pos) (tS X.K w P (sItems2 i ei1 ei2 ev)) :=
  PS.of (ps_asg (pe_tup ha) (pg_tup hc (pgs_cons (pg_sub (pe_var hN hv hd hcd) hx1 set_list ha1) (pgs_cons (pg_sub (pe_var hN hv hd hcd) hx2 set_list ha2) pgs_nil hs2) hs1) hn hst) hs hw h1) fun Dn σ H h => by
    obtain ⟨Xs, B, st, r, h⟩ := h
    refine tA_S r h fun vs H1 ds st1 p1 p q h1 => ?_
    split at h1
    · next d e =>
      refine ⟨by rw [dpAll_len q]; unfold sizeLine; simp, fun pa hpa => ?_⟩
      have pn := rel_new (o := .tup vs) p.rel.rel hpa
      have P1 : PostS X.K Xs P B st σ H st1 σ (upd H1 pa (.tup vs)) := p.trans (.of p.rel pn)
      have q' := dpAll_mono pn.ex q
      cases q' with
      | cons d1 r1 =>
        cases r1 with
        | cons d2 r2 =>
          cases r2
          refine ⟨pa, _, rfl, .inl (.inl upd_same), rfl, _, _, rfl, item_of P1.rel d1 (h1.on P1) fun st2 H2 p2 g2 => ⟨_, _, rfl, item_of p2.rel (dp_mono p2.ex d2) (g2.on p2) fun st3 H3 p3 g3 => ⟨rfl, ?_⟩⟩⟩
          exact g3 σ H3 p3
    · exact h1.elim
end
end TX

end

section
set_option Elab.async false
set_option linter.all false
set_option maxRecDepth 100000
set_option maxHeartbeats 2000000
namespace TX
open PySem L2 PyProof.Rows
open PySem.W (Frag)
/-! ### the head where code objects' tables are left out of the written part -/
def tabsG (g : Addr → Option Obj) (K : Frag) : Bool := ((cTs K).all fun p => match g p.2 with
  | some o => He.emptyTab o
  | none => false) && decide (tabs K).Nodup
def obsT (n : Nat) (chk : Frag → Bool) (fn : List He.DefD) (g : Addr → Option Obj) : He.AlD := ((obsX chk fn (He.frT g (He.asD g n))).1 && tabsG g (He.frT g (He.asD g n)), (obsX chk fn (He.frT g (He.asD g n))).2)
structure SaysT (chk : Frag → Bool) (fn : List He.DefD) (h : Heap) (K : Frag) : Prop where
  d : SaysX chk fn K
  empty : ∀ p ∈ cTs K, h.get? p.2 = some { cls := .none, data := .fields #[] }
  nd : (tabs K).Nodup
theorem saysT_of {n : Nat} {chk : Frag → Bool} {fn : List He.DefD} {h : Heap} (e : obsT n chk fn h.get? = He.valD fn) : SaysT chk fn h (He.frT h.get? (He.asD h.get? n)) := by
  have e1 : ((obsX chk fn (He.frT h.get? (He.asD h.get? n))).1 && tabsG h.get? (He.frT h.get? (He.asD h.get? n))) = true := by
    have z := congrArg Prod.fst e
    exact z
  have e2 : (obsX chk fn (He.frT h.get? (He.asD h.get? n))).2 = (He.valD fn).2 := by
    have z := congrArg Prod.snd e
    exact z
  obtain ⟨h1, h2⟩ := Bool.and_eq_true_iff.mp e1
  obtain ⟨h3, h4⟩ := Bool.and_eq_true_iff.mp h2
  refine ⟨Prod.ext h1 e2, fun p hp => ?_, of_decide_eq_true h4⟩
  have q := List.all_eq_true.mp h3 p hp
  cases z : h.get? p.2 with
  | none => rw [z] at q; cases q
  | some o =>
    rw [z] at q
    rw [He.emptyTab_eq q]
def hookT (n : Nat) (chk : Frag → Bool) (fn : List He.DefD) : PySem.W.Hook where
  α := He.AlD
  obs := fun s => obsT n chk fn s.heap.get?
  val := fun _ => He.valD fn
  says := fun _ h => ∃ K : Frag, K.In h ∧ SaysT chk fn h K
  of := fun _ _ e => ⟨_, He.frT_in, saysT_of e⟩
  keeps := fun _ _ _ ⟨K, hK, c⟩ k => ⟨K, PySem.W.Frag.In.keeps hK k, ⟨c.d, fun p hp => k _ _ (c.empty p hp), c.nd⟩⟩
theorem obsT_eq {n : Nat} {chk : Frag → Bool} {fn : List He.DefD} {g : Addr → Option Obj} {s : Shared} (h : ∀ a, g a = s.heap.get? a) : obsT n chk fn g = (hookT n chk fn).obs s := by
  obtain rfl : g = s.heap.get? := funext h
  rfl
/-- a def whose code object's table is known -/
def tabC (K : Frag) (p : Str × Option Str) : Bool := PySem.W.codeHdIn K (He.codeOf K p) (He.tabOf K (He.codeOf K p)) && (K.lookup (He.tabOf K (He.codeOf K p))).isNone
theorem tabF_of {K : Frag} {x qual : Str} {params : Arguments} {body : List Stmt} {scope : Scope} {dvs : List V} {kws : List (Str × V)} {p : Str × Option Str} {fd : FuncData} (F : FunD K x qual params body scope dvs kws (He.fAd K p) fd) (h : tabC K p = true) : TabF K fd := by
  obtain ⟨oc, od, dV, kV, doc, pm, an, cdv, ct, osl, e, lk, hcd, _, _⟩ := F.ex
  obtain ⟨c, hc⟩ := He.codeIn_ref hcd
  have hcode : fd.code = .ref c := by rw [e, ← hc]
  have ec : He.codeOf K p = c := He.codeOf_eq lk hcode
  unfold tabC at h
  rw [ec] at h
  refine ⟨c, He.tabOf K c, hcode, List.mem_map.mpr ?_⟩
  have hl : ∃ o, K.lookup c = some o := by
    cases z : K.lookup c with
    | some o => exact ⟨o, rfl⟩
    | none =>
      rw [hc] at hcd
      unfold PySem.W.codeIn at hcd
      dsimp only at hcd
      rw [z] at hcd
      cases hcd
  obtain ⟨o, ho⟩ := hl
  exact ⟨(c, o), List.mem_filter.mpr ⟨He.lookup_mem ho, h⟩, rfl⟩
theorem cTs_mem {K : Frag} {p : Addr × Addr} (h : p ∈ cTs K) : PySem.W.codeHdIn K p.1 p.2 = true ∧ K.lookup p.2 = none := by
  obtain ⟨q, hq, e⟩ := List.mem_map.mp h
  obtain ⟨_, h2⟩ := List.mem_filter.mp hq
  obtain ⟨h3, h4⟩ := Bool.and_eq_true_iff.mp h2
  subst e
  exact ⟨h3, Option.isNone_iff_eq_none.mp h4⟩
/-- the law from its run -/
theorem lawT {l : PySem.W.OpenLaw} {w : World} {K : Frag} {k n : Nat} {mg : Str → Option Value} {fa : Addr} {h : Heap} {fd : FuncData} {cl : Nat → Addr} {φ : EvE} {chk : Frag → Bool} {fn : List He.DefD} (KX : K.In h) (c : SaysT chk fn h K) (hb : ∀ (s : Shared) (u : Value), BindsTo s fd ⟨[u], []⟩ [("script", u)])
    (hrun : ∀ ns : List Int, ns.length ≤ n → (∀ z ∈ ns, Builtin.Int.intBits z ≤ 1048576) → ∃ b st, φ [.pu (.scr ns)] = .ok (.bl true, b) st) (F : ∀ base : Heap, TabsB K base mg → FnOk l.prog w K mg base CX0 k fa fd ["script"] (sp0 K cl φ)) :
    LamX.LawAtS l w K CX0 k n "script" mg fa h :=
  ⟨fd, cTs K, sp0 K cl φ, c.empty, fun p hp => (cTs_mem hp).2, fun p hp => PySem.W.codeHd_of_K KX (cTs_mem hp).1, hb, fun H a ns hl hbits hT hS => by
    obtain ⟨b, st, q⟩ := hrun ns hl hbits
    exact law_spT (fun P hP => by
      obtain ⟨p, hp, e⟩ := List.mem_map.mp hP
      rw [← e]
      exact hT p hp) c.nd hS q, fun base _ _ hTB => F base fun p hp => ⟨(hTB p hp).code, (hTB p hp).bm, (hTB p hp).gP⟩⟩
end TX

end

section
set_option Elab.async false
set_option linter.all false
set_option maxRecDepth 100000
set_option maxHeartbeats 2000000
/-! enumerate over a tuple -/
namespace PySem
open Sem (wp)
set_option maxHeartbeats 1000000 in
theorem meets_enum_newT {v : Value} {o : Obj} {H : Heap → Prop} (B : Begins v o H) :
    Meets (Builtin.«enumerate.__new__» ⟨[.type "enumerate", v], []⟩) (fun _ R s => H s.heap ∧
      R (.ok (.ret (.ref (s.heap.push o).objs.size))) { s with heap := (s.heap.push o).push { cls := .type "enumerate", data := .fields #[.none, .bool false, .ref s.heap.objs.size, rawInt 0, .none, .none] } }) :=
  .of_wp fun prog w A R s h => by
    obtain ⟨hp, g, d, tk, os⟩ := s; obtain ⟨h1, h⟩ := h
    have hsub := sub_enumerate
    have q1 : ∀ {A' : Around} {E : Value → Shared → Prop} {Q : Value → Shared → Prop}, Q (.ref hp.objs.size) ⟨hp.push o, g, d, tk, os⟩ → wpAny (model prog w) A' (pyIter v) Q E ⟨hp, g, d, tk, os⟩ :=
      fun q => B.iter prog w _ _ ⟨hp, g, d, tk, os⟩ _ h1 q
    wp_walk using q1
    refine wpAny_stack_any fun st => wpAny_pure ?_
    split
    · rename_i c _ _ _ _ _
      cases (c == Value.type "enumerate")
      · wp_walk using q1
        exact ⟨_, rfl, h⟩
      · wp_walk using q1
        exact ⟨_, rfl, h⟩
    · wp_walk using q1
      exact ⟨_, rfl, h⟩
section
variable {prog : Program} {w : World} {A : Around} {E : Value → Shared → Prop} {s : Shared}
theorem call_enumerate_tup {l : Addr} {items : Array Value} {Q : Value → Shared → Prop} (hL : s.heap.IsTuple l items)
    (h : ∀ h', IsEnum h' (s.heap.objs.size + 1) s.heap.objs.size 0 .none → h'.IsTupleIter s.heap.objs.size l 0 → h'.objs.size = s.heap.objs.size + 2 →
      (∀ b o, s.heap.get? b = some o → h'.get? b = some o) → Q (.ref (s.heap.objs.size + 1)) { s with heap := h' }) :
    wpAny (model prog w) A (call (.type "enumerate") [.ref l]) Q E s := by
  refine callType_new F.called_enumerate (by decide) (F.typeCall_enumerate_1 _) (F.newCall_enumerate_1 _) (fun obj => F.args_object_init_2 obj _) F.entry_enumerate_new
    (meets_enum_newT (begins_tuple l items)) ⟨hL, ?_⟩
  have hz : (s.heap.push { cls := .type "tuple_iterator", data := .fields #[.ref l, .int 0 0] }).objs.size = s.heap.objs.size + 1 := Heap.size_push ..
  show _ ∧ _
  rw [hz]
  have he : IsEnum ((s.heap.push { cls := .type "tuple_iterator", data := .fields #[.ref l, .int 0 0] }).push
      { cls := .type "enumerate", data := .fields #[.none, .bool false, .ref s.heap.objs.size, rawInt 0, .none, .none] }) (s.heap.objs.size + 1) s.heap.objs.size 0 .none := by
    have := Heap.get?_push_size (s.heap.push { cls := .type "tuple_iterator", data := .fields #[.ref l, .int 0 0] })
      (o := { cls := .type "enumerate", data := .fields #[.none, .bool false, .ref s.heap.objs.size, rawInt 0, .none, .none] }) rfl
    rw [hz] at this; exact this
  refine ⟨⟨_, he, rfl⟩, h _ he ⟨_, Heap.get?_push_of_some _ (Heap.get?_push_size _ rfl), rfl, rfl⟩ (by rw [Heap.size_push, hz]) fun b o x => Heap.get?_push_of_some _ (Heap.get?_push_of_some _ x)⟩
theorem wpAny_pyNext_enumT_end {e it l : Addr} {k : Nat} {i : Int} {items : Array Value} {old : Value} {Q : Option Value → Shared → Prop} (hh : A.in1.handled = none)
    (he : IsEnum s.heap e it i old) (hit : s.heap.IsTupleIter it l k) (hl : s.heap.IsTuple l items) (hx : items[k]? = none)
    (hQ : ∀ h', Heap.ExtBut it s.heap h' → Q none { s with heap := h' }) : wpAny (model prog w) A (pyNext (.ref e)) Q E s := by
  have hT : s.TypeIs (.ref e) "enumerate" := ⟨_, he, rfl⟩
  unfold pyNext
  refine wpAny_bind (wpAny_attempt (wpAny_callSpecial?_slot (name := Str.ofString "__next__") hT F.slot_enumerate_next
    (wpAny_call_entry F.slot_enumerate_next hT F.entry_enumerate_next ?_ (F.args_enumerate_next_1 _))))
  show wpAny _ _ (field (.ref e) 2 >>= _) _ _ _
  refine wpAny_bind (wpAny_field he rfl (x := .ref it) rfl ?_)
  refine wpAny_bind (wpAny_nextOf_tuple_end hh hit hl hx fun h' x he' hx' => ?_)
  obtain ⟨o, ho, hc⟩ := hx'
  refine wpAny_bind (wpAny_isInstance (T := "StopIteration") (b := true) ⟨o, ho, hc⟩ isSubtype_stop ?_)
  exact wpAny_pure (hQ _ he')
end
end PySem
namespace TX
open PySem L2 Evl PyProof.Rows
/-- the tuple at a as it stands at each turn, each item in a new pair -/
def IteT (K : PySem.W.Frag) (a : Addr) : It :=
  ⟨fun i H => ∃ (xs : List V) (x : V), SqT K H a xs ∧ xs[i]? = some x, fun i H v H' => ∃ T x, v = .ref T ∧ H T = none ∧ H' = upd H T (.tup [.int (i : Nat), x]) ∧ ∀ xs, SqT K H a xs → xs[i]? = some x, fun i H => ∃ xs : List V, SqT K H a xs ∧ xs.length ≤ i⟩
theorem turn_enumT {P : Program} {w : World} {K : PySem.W.Frag} {elts : List Expr} {kk : Nat} {tpos : Pos} (a e it : Addr) :
    Turn P w K (.Tuple elts kk tpos) (IteT K a) [e, it] e (fun i h => (∃ old, IsEnum h e it ((i : Nat) : Int) old) ∧ h.IsTupleIter it a i ∧ e ≠ it ∧ a ≠ it ∧ a ≠ e) where
  mem := by simp
  obj := fun i h st b hb => by
    obtain ⟨⟨old, he⟩, ⟨o, ho, hc, hd⟩, _⟩ := st
    have e' : b = e ∨ b = it := by simpa using hb
    rcases e' with z | z
    · rw [z]; exact ⟨_, he, fun v q => nomatch q⟩
    · rw [z]; exact ⟨o, ho, fun v q => by rw [hd] at q; cases q⟩
  keep := fun i h h' st k => let ⟨⟨old, he⟩, hi, hne⟩ := st; ⟨⟨old, k e (by simp) _ he⟩, hi.at fun o q => k it (by simp) o q, hne⟩
  item := by
    intro X hP hw hK hc i pins s σ H E I hf st hg
    subst hP hw hK
    obtain ⟨⟨old, he⟩, hit, hne, hai, hae⟩ := st
    obtain ⟨xs, x, hq, hx⟩ := hg
    obtain ⟨its, rv, p, hz⟩ := I.tuple hq
    obtain ⟨u, hu, ru⟩ := rv.get hx
    have hel : e < s.heap.objs.size := Heap.lt_size he
    have hil : it < s.heap.objs.size := by obtain ⟨_, q, _⟩ := hit; exact Heap.lt_size q
    have hh : X.A.in1.handled = none := I.ok.hd hc
    have hlt : i < its.toArray.size := by
      have := (List.getElem?_eq_some_iff.mp hu).1
      simpa using this
    refine wpAny_pyNext_enum_itemD (Draws.tuple hh it a hai its.toArray) he ⟨hit, p⟩ hlt hne (by simp [hne, Ne.symm hae]) fun x' h' tk hx' ho hs' hT hsz hk => ?_
    have ex : x' = u := by
      have : its.toArray[i]? = some u := by simpa using hu
      rw [this] at hx'
      cases hx'
      rfl
    subst ex
    refine ⟨_, rfl, wpAny_letOwnedTupleGo_enum (s := { s with heap := h', toks := tk + 1 }) ho fun h'' he' sb => ?_⟩
    have hT2 : h''.get? s.heap.objs.size = some { cls := .type "tuple", data := .seq #[.int i tk, x'] } := (sb.2 _ (Nat.ne_of_gt hel)).trans hT
    have new : ObjOk X.prog X.w (upd H s.heap.objs.size (.tup [.int (i : Nat), x])) h'' s.heap.objs.size (.tup [.int (i : Nat), x]) :=
      ⟨by show 2 ≤ sizeLine; decide, [.int i tk, x'], .cons ⟨_, rfl⟩ (.cons ru .nil), ⟨_, hT2, rfl, _, rfl⟩⟩
    have I1 : Inv X pins σ (upd H s.heap.objs.size (.tup [.int (i : Nat), x])) { s with heap := h'', toks := tk + 1 } :=
      I.turnedNew (ch := [e, it]) (fun b ob hb q => (sb.2 b (fun z => hb (by simp [z]))).trans (hk b ob (fun z => hb (by simp [z])) (fun z => hb (by simp [z])) q)) hf (Nat.le_refl _) new
    refine ⟨.ref s.heap.objs.size, _, I1, rfl, ⟨_, x, rfl, I.hok.fresh (Nat.le_refl _), rfl, fun ys hy => by rw [I.tuple_inj hy hq]; exact hx⟩, ⟨⟨x', ?_⟩, hs'.1.at fun o q => (sb.2 it (Ne.symm hne)).trans q, hne, hai, hae⟩, fun b hb => ?_⟩
    · have e1 : ((i + 1 : Nat) : Int) = (i : Int) + 1 := by omega
      rw [e1]; exact he'
    · have hb' : b < s.heap.objs.size := by
        have e' : b = e ∨ b = it := by simpa using hb
        rcases e' with z | z
        · rw [z]; exact hel
        · rw [z]; exact hil
      rw [upd_ne (Nat.ne_of_lt hb')]
      exact (hf b hb).1
  done := by
    intro X hP hw hK hc i pins s σ H E I hf st hg
    subst hP hw hK
    obtain ⟨⟨old, he⟩, hit, hne, hai, hae⟩ := st
    obtain ⟨xs, hq, hx⟩ := hg
    obtain ⟨its, rv, p, hz⟩ := I.tuple hq
    obtain ⟨f0, f1, f2, f3, f4, f5⟩ := hf it (by simp)
    have hl := rv.length
    have hh : X.A.in1.handled = none := I.ok.hd hc
    exact wpAny_pyNext_enumT_end hh he hit p (by simp; omega) fun h' eb => ⟨rfl, I.turned (t' := s.toks) (fun b o hb q => eb b o hb q) f0 f1 f3 f4 f5⟩
  self := fun A i s Q E st h => let ⟨⟨_, he⟩, _⟩ := st; wpAny_pyIter_enum he h
def iEnumA (K : PySem.W.Frag) (ta : TA) : TI := fun σ H R => ta σ H fun vs H1 => ∃ a xs, vs = [.ref a] ∧ ((SqL K H1 a xs ∧ R (Ite K a) H1) ∨ (SqT K H1 a xs ∧ R (IteT K a) H1))
theorem pi_enumA {X : Cx} {e : Expr} {ta : TA} {p pos tpos : Pos} {elts : List Expr} {kk : Nat} (hg : Gl X "enumerate") (hm : X.mg "enumerate" = none) (ha : PA X [e] ta) (hs : starEach [e] X.env = [(false, eval e X.env)] := by rfl) :
    PI X (.Tuple elts kk tpos) (.Call (.Name "enumerate" p) [e] [] pos) (iEnumA X.K ta) := by
  refine ⟨fun pins s σ H R I h => ?_⟩
  refine Call_ (ld_blt I hg hm boot_enumerate (PyProof.Rows.callWith_type1 (thn (ha.run pos pins s σ H _ I h) fun us s1 ⟨vs, H1, I1, r1, q1⟩ => ?_) hs rfl))
  obtain ⟨a, xs, ex, q1⟩ := q1
  subst ex
  cases r1 with
  | cons r rr =>
    cases rr
    cases r
    have fresh2 : ∀ b, b ∈ [s1.heap.objs.size + 1, s1.heap.objs.size] → FpOk X pins H1 b := fun b hb => by
      have e' : b = s1.heap.objs.size + 1 ∨ b = s1.heap.objs.size := by simpa using hb
      have hle : s1.heap.objs.size ≤ b := by
        rcases e' with z | z
        · rw [z]; exact Nat.le_add_right _ _
        · rw [z]; exact Nat.le_refl _
      exact I1.fpOk hle (I1.hok.fresh hle)
    rcases q1 with ⟨hq, q⟩ | ⟨hq, q⟩
    · obtain ⟨its, rv, p', hz⟩ := I1.list hq
      refine call_enumerate_list p'.isList fun h' he hit hsz hk => wpAny_pyIter_enum he ?_
      have I2 : Inv X pins σ H1 { s1 with heap := h' } := I1.kept (t' := s1.toks) hk
      exact ⟨s1.heap.objs.size + 1, [s1.heap.objs.size + 1, s1.heap.objs.size], _, _, H1, rfl, I2, turn_enum a (s1.heap.objs.size + 1) s1.heap.objs.size, ⟨⟨.none, he⟩, hit, Nat.succ_ne_self _⟩, fresh2, q⟩
    · obtain ⟨its, rv, p', hz⟩ := I1.tuple hq
      obtain ⟨o1, ho1, _⟩ := id p'
      have hal := Heap.lt_size ho1
      refine call_enumerate_tup (show s1.heap.IsTuple a its.toArray from p') fun h' he hit hsz hk => wpAny_pyIter_enum he ?_
      have I2 : Inv X pins σ H1 { s1 with heap := h' } := I1.kept (t' := s1.toks) hk
      exact ⟨s1.heap.objs.size + 1, [s1.heap.objs.size + 1, s1.heap.objs.size], _, _, H1, rfl, I2, turn_enumT a (s1.heap.objs.size + 1) s1.heap.objs.size, ⟨⟨.none, he⟩, hit, Nat.succ_ne_self _, Nat.ne_of_lt hal, Nat.ne_of_lt (Nat.lt_succ_of_lt hal)⟩, fresh2, q⟩
end TX

end

section
set_option Elab.async false
set_option linter.all false
set_option maxRecDepth 100000
set_option maxHeartbeats 2000000
namespace TX
open PySem L2 Evl PyProof.Rows
/-! ### enumerate, zip -/
def enumD : Nat → List D → List D
  | _, [] => []
  | n, d :: r => .tup [.int (n : Nat), d] :: enumD (n + 1) r
def zipD : List D → List D → List D
  | a :: r, b :: s => .tup [a, b] :: zipD r s
  | _, _ => []
theorem enumD_get : ∀ (ds : List D) (n i : Nat), (enumD n ds)[i]? = ds[i]?.map fun d => .tup [.int ((n + i : Nat) : Int), d]
  | [], n, i => by unfold enumD; simp
  | d :: r, n, 0 => by unfold enumD; simp
  | d :: r, n, i + 1 => by
    unfold enumD
    rw [List.getElem?_cons_succ, List.getElem?_cons_succ, enumD_get r (n + 1) i]
    have e : n + 1 + i = n + (i + 1) := by omega
    rw [e]
theorem enumD_len : ∀ (ds : List D) (n : Nat), (enumD n ds).length = ds.length
  | [], _ => rfl
  | d :: r, n => by unfold enumD; rw [List.length_cons, List.length_cons, enumD_len r]
theorem zipD_get : ∀ (xs ys : List D) (i : Nat), (zipD xs ys)[i]? = match xs[i]?, ys[i]? with | some a, some b => some (.tup [a, b]) | _, _ => none
  | [], ys, i => by unfold zipD; simp
  | a :: r, [], i => by unfold zipD; simp
  | a :: r, b :: s, 0 => by unfold zipD; simp
  | a :: r, b :: s, i + 1 => by
    unfold zipD
    rw [List.getElem?_cons_succ, List.getElem?_cons_succ, List.getElem?_cons_succ]
    exact zipD_get r s i
theorem zipD_len : ∀ (xs ys : List D), (zipD xs ys).length = min xs.length ys.length
  | [], ys => by unfold zipD; simp
  | a :: r, [] => by unfold zipD; simp
  | a :: r, b :: s => by unfold zipD; rw [List.length_cons, List.length_cons, List.length_cons, zipD_len r s]; omega
section
variable {K : PySem.W.Frag}
theorem dq_pair {M : Hp} {a b : V} {x y : D} (h1 : Dq K M a x) (h2 : Dq K M b y) : DqAll K M [a, b] [x, y] := .cons h1 (.cons h2 .nil)
theorem src_enumL {a : Addr} {ds : List D} : Src K (Ite K a) (enumD 0 ds) fun M => ∃ vs, M a = some (.lst vs) ∧ DqAll K M vs ds where
  mono := fun M M' e ⟨vs, h1, h2⟩ => ⟨vs, e _ _ h1, dpAll_mono e h2⟩
  stop := fun i H M e ⟨vs, h1, h2⟩ hi => ⟨vs, SqL.of (e _ _ h1), by rw [dpAll_len h2]; rw [enumD_len] at hi; exact hi⟩
  go := fun i H M e ⟨vs, h1, h2⟩ hi => ⟨vs, vs[i]'(by rw [dpAll_len h2]; rw [enumD_len] at hi; exact hi), SqL.of (e _ _ h1), List.getElem?_eq_getElem _⟩
  yld := fun Xs st σ i H x H' d r ⟨vs, h1, h2⟩ hd ⟨T, y, e1, e2, e3, hy⟩ => by
    subst e1; subst e3
    rw [enumD_get] at hd
    cases ed : ds[i]? with
    | none => rw [ed] at hd; cases hd
    | some d0 =>
      rw [ed] at hd
      cases hd
      obtain ⟨v, q1, q2⟩ := dpAll_getD h2 ed
      have e4 := hy vs (SqL.of (msk_ex _ _ h1))
      rw [q1] at e4
      cases e4
      have hn := val_newT (vs := [.int (i : Nat), y]) (ds := [.int (i : Nat), d0]) r e2 (dq_pair (.int _) q2)
      refine ⟨rel_new r e2, ?_⟩
      have e0 : 0 + i = i := Nat.zero_add i
      rw [e0]
      exact hn.dp
theorem src_enumT {a : Addr} {ds : List D} : Src K (IteT K a) (enumD 0 ds) fun M => ∃ vs, SqT K M a vs ∧ DqAll K M vs ds where
  mono := fun M M' e ⟨vs, h1, h2⟩ => ⟨vs, ex_t e h1, dpAll_mono e h2⟩
  stop := fun i H M e ⟨vs, h1, h2⟩ hi => ⟨vs, ex_t e h1, by rw [dpAll_len h2]; rw [enumD_len] at hi; exact hi⟩
  go := fun i H M e ⟨vs, h1, h2⟩ hi => ⟨vs, vs[i]'(by rw [dpAll_len h2]; rw [enumD_len] at hi; exact hi), ex_t e h1, List.getElem?_eq_getElem _⟩
  yld := fun Xs st σ i H x H' d r ⟨vs, h1, h2⟩ hd ⟨T, y, e1, e2, e3, hy⟩ => by
    subst e1; subst e3
    rw [enumD_get] at hd
    cases ed : ds[i]? with
    | none => rw [ed] at hd; cases hd
    | some d0 =>
      rw [ed] at hd
      cases hd
      obtain ⟨v, q1, q2⟩ := dpAll_getD h2 ed
      have e4 := hy vs (ex_t msk_ex h1)
      rw [q1] at e4
      cases e4
      have hn := val_newT (vs := [.int (i : Nat), y]) (ds := [.int (i : Nat), d0]) r e2 (dq_pair (.int _) q2)
      refine ⟨rel_new r e2, ?_⟩
      have e0 : 0 + i = i := Nat.zero_add i
      rw [e0]
      exact hn.dp
theorem src_zipL {a b : Addr} {xs ys : List D} : Src K (Itz K a b) (zipD xs ys) fun M => (∃ vs, M a = some (.lst vs) ∧ DqAll K M vs xs) ∧ ∃ us, M b = some (.lst us) ∧ DqAll K M us ys where
  mono := fun M M' e ⟨⟨vs, h1, h2⟩, us, h3, h4⟩ => ⟨⟨vs, e _ _ h1, dpAll_mono e h2⟩, us, e _ _ h3, dpAll_mono e h4⟩
  stop := fun i H M e ⟨⟨vs, h1, h2⟩, us, h3, h4⟩ hi => ⟨vs, us, SqL.of (e _ _ h1), SqL.of (e _ _ h3), by rw [dpAll_len h2, dpAll_len h4]; rw [zipD_len] at hi; omega⟩
  go := fun i H M e ⟨⟨vs, h1, h2⟩, us, h3, h4⟩ hi => ⟨vs, us, vs[i]'(by rw [dpAll_len h2]; rw [zipD_len] at hi; omega), us[i]'(by rw [dpAll_len h4]; rw [zipD_len] at hi; omega), SqL.of (e _ _ h1), SqL.of (e _ _ h3), List.getElem?_eq_getElem _, List.getElem?_eq_getElem _⟩
  yld := fun Xs st σ i H x H' d r ⟨⟨vs, h1, h2⟩, us, h3, h4⟩ hd ⟨T, y, y', e1, e2, e3, hy, hy'⟩ => by
    subst e1; subst e3
    rw [zipD_get] at hd
    cases ed : xs[i]? with
    | none => rw [ed] at hd; cases hd
    | some d0 =>
      cases ed' : ys[i]? with
      | none => rw [ed, ed'] at hd; cases hd
      | some d1 =>
        rw [ed, ed'] at hd
        cases hd
        obtain ⟨v, q1, q2⟩ := dpAll_getD h2 ed
        obtain ⟨v', q1', q2'⟩ := dpAll_getD h4 ed'
        have e4 := hy vs (SqL.of (msk_ex _ _ h1))
        rw [q1] at e4
        cases e4
        have e5 := hy' us (SqL.of (msk_ex _ _ h3))
        rw [q1'] at e5
        cases e5
        exact ⟨rel_new r e2, (val_newT r e2 (dq_pair q2 q2')).dp⟩
theorem src_zipT {a b : Addr} {xs ys : List D} : Src K (RZ.ItzT K a b) (zipD xs ys) fun M => (∃ vs, SqT K M a vs ∧ DqAll K M vs xs) ∧ ∃ us, SqT K M b us ∧ DqAll K M us ys where
  mono := fun M M' e ⟨⟨vs, h1, h2⟩, us, h3, h4⟩ => ⟨⟨vs, ex_t e h1, dpAll_mono e h2⟩, us, ex_t e h3, dpAll_mono e h4⟩
  stop := fun i H M e ⟨⟨vs, h1, h2⟩, us, h3, h4⟩ hi => ⟨vs, us, ex_t e h1, ex_t e h3, by rw [dpAll_len h2, dpAll_len h4]; rw [zipD_len] at hi; omega⟩
  go := fun i H M e ⟨⟨vs, h1, h2⟩, us, h3, h4⟩ hi => ⟨vs, us, vs[i]'(by rw [dpAll_len h2]; rw [zipD_len] at hi; omega), us[i]'(by rw [dpAll_len h4]; rw [zipD_len] at hi; omega), ex_t e h1, ex_t e h3, List.getElem?_eq_getElem _, List.getElem?_eq_getElem _⟩
  yld := fun Xs st σ i H x H' d r ⟨⟨vs, h1, h2⟩, us, h3, h4⟩ hd ⟨T, y, y', e1, e2, e3, hy, hy'⟩ => by
    subst e1; subst e3
    rw [zipD_get] at hd
    cases ed : xs[i]? with
    | none => rw [ed] at hd; cases hd
    | some d0 =>
      cases ed' : ys[i]? with
      | none => rw [ed, ed'] at hd; cases hd
      | some d1 =>
        rw [ed, ed'] at hd
        cases hd
        obtain ⟨v, q1, q2⟩ := dpAll_getD h2 ed
        obtain ⟨v', q1', q2'⟩ := dpAll_getD h4 ed'
        have e4 := hy vs (ex_t msk_ex h1)
        rw [q1] at e4
        cases e4
        have e5 := hy' us (ex_t msk_ex h3)
        rw [q1'] at e5
        cases e5
        exact ⟨rel_new r e2, (val_newT r e2 (dq_pair q2 q2')).dp⟩
end
def iEnumD (e : EvE) : EvI := fun st => (e st).bind fun z st1 => match z.1 with
  | .tup ds => .ok (enumD 0 ds) st1
  | .lst ds => .ok (enumD 0 ds) st1
  | _ => .no
def iZipD (a : EvA) : EvI := fun st => (a st).bind fun ds st1 => match ds with
  | [.tup xs, .tup ys] => .ok (zipD xs ys) st1
  | [.lst xs, .lst ys] => .ok (zipD xs ys) st1
  | _ => .no
section
variable {X : Cx} {w : Wi}
theorem xi_enum {e : Expr} {ev : EvE} {p pos tpos : Pos} {elts : List Expr} {kk : Nat} (hm : X.mg "enumerate" = none) (he : PE X e (tE X.K w ev)) (hg : Gl X "enumerate" := by rfl) (hs : starEach [e] X.env = [(false, eval e X.env)] := by rfl) (hs2 : starEach [e] X.env = (false, eval e X.env) :: starEach [] X.env := by rfl) :
    PI X (.Tuple elts kk tpos) (.Call (.Name "enumerate" p) [e] [] pos) (tI X.K w (iEnumD ev)) :=
  PI.of (pi_enumA hg hm (pa_cons he pa_nil hs2) hs) fun σ H R h => by
    obtain ⟨Xs, st, rel, h⟩ := h
    refine tE_seq rel h fun x H1 rx st1 p1 v1 h1 => ?_
    have dp := v1.dp
    revert h1 dp
    cases rx.1 with
    | tup ds =>
      intro h1 dp
      cases dp with
      | tup q1 q2 => exact ⟨_, _, rfl, .inr ⟨ex_t msk_ex q1, h1 _ H1 _ p1 src_enumT ⟨_, q1, q2⟩⟩⟩
    | lst ds =>
      intro h1 dp
      cases dp with
      | lst q1 q2 => exact ⟨_, _, rfl, .inl ⟨SqL.of (msk_ex _ _ q1), h1 _ H1 _ p1 src_enumL ⟨_, q1, q2⟩⟩⟩
    | _ => intro h1; exact h1.elim
theorem xi_zip {e e2 : Expr} {ea : EvA} {p pos tpos : Pos} {elts : List Expr} {kk : Nat} (hm : X.mg "zip" = none) (ha : PA X [e, e2] (tA X.K w ea)) (hg : Gl X "zip" := by rfl)
    (hs : starEach [e, e2] X.env = (false, eval e X.env) :: starEach [e2] X.env := by rfl) (hpl : (backTo pos (starEach [e2] X.env)).any (·.1) = false := by rfl) :
    PI X (.Tuple elts kk tpos) (.Call (.Name "zip" p) [e, e2] [] pos) (tI X.K w (iZipD ea)) :=
  PI.of (RZ.pi_zipA hg hm ha hs hpl) fun σ H R h => by
    obtain ⟨Xs, st, rel, h⟩ := h
    refine tA_seq rel h fun vs H1 ds st1 p1 q h1 => ?_
    split at h1
    · next xs ys =>
      cases q with
      | cons d1 r1 =>
        cases r1 with
        | cons d2 r2 =>
          cases r2
          cases d1 with
          | tup a1 a2 =>
            cases d2 with
            | tup b1 b2 => exact ⟨_, _, _, _, rfl, .inr ⟨ex_t msk_ex a1, ex_t msk_ex b1, h1 _ H1 _ p1 src_zipT ⟨⟨_, a1, a2⟩, _, b1, b2⟩⟩⟩
    · next xs ys =>
      cases q with
      | cons d1 r1 =>
        cases r1 with
        | cons d2 r2 =>
          cases r2
          cases d1 with
          | lst a1 a2 =>
            cases d2 with
            | lst b1 b2 => exact ⟨_, _, _, _, rfl, .inl ⟨SqL.of (msk_ex _ _ a1), SqL.of (msk_ex _ _ b1), h1 _ H1 _ p1 src_zipL ⟨⟨_, a1, a2⟩, _, b1, b2⟩⟩⟩
    · exact h1.elim
end
/-! ### a < b < c -/
def eChain (f f' : D → D → Option R1) (a b c : EvE) : EvE := fun st => (a st).bind fun x st1 => (b st1).bind fun y st2 => match f x.1 y.1 with
  | some (.bl true, _) => (c st2).bind fun z st3 => match f' y.1 z.1 with
    | some u => .ok u st3
    | none => .no
  | some (.bl false, _) => .ok (.bl false, false) st2
  | _ => .no
section
variable {X : Cx} {w : Wi} {pos : Pos} {a b c : Expr} {ea eb ec : EvE} {r r' : R2} {f f' : D → D → Option R1}
theorem tChain_of {K : PySem.W.Frag} (hs : OpS K r f) (hs' : OpS K r' f') {σ : L2.St} {H : Hp} {Q : VK} (h : tE K w (eChain f f' ea eb ec) σ H Q) : tChain r r' (tE K w ea) (tE K w eb) (tE K w ec) σ H Q := by
  obtain ⟨Xs, st, rel, h⟩ := h
  refine tE_seq rel h fun x H1 rx st1 p1 v1 h1 => ?_
  refine tE_seq p1.rel h1 fun y H2 ry st2 p2 v2 h2 => ?_
  split at h2
  · next u e =>
    refine hs Xs st2 σ H2 x y rx.1 ry.1 _ _ p2.rel (dp_mono p2.ex v1.dp) v2.dp e fun v H3 p3 v3 => ?_
    have d3 := v3.dp
    cases d3
    refine ⟨true, rfl, ite_tt ?_⟩
    refine tE_seq p3.rel (h2.mono (fun _ _ x => x) fun _ _ _ x => exW_on p3 x) fun z H4 rz st4 p4 v4 h4 => ?_
    split at h4
    · next u2 e2 =>
      exact hs' Xs st4 σ H4 y z ry.1 rz.1 _ _ p4.rel (dp_mono (p3.ex.trans p4.ex) v2.dp) v4.dp e2 fun v' H5 p5 v5 => h4 v' H5 ((((p1.trans p2).trans p3).trans p4).trans p5) (.of (((p1.trans p2).trans p3).trans p4) v5)
    · exact h4.elim
  · next u e =>
    refine hs Xs st2 σ H2 x y rx.1 ry.1 _ _ p2.rel (dp_mono p2.ex v1.dp) v2.dp e fun v H3 p3 v3 => ?_
    have d3 := v3.dp
    cases d3
    refine ⟨false, rfl, ite_ff ?_⟩
    exact h2 _ H3 ((p1.trans p2).trans p3) (.old (.bl false))
  · exact h2.elim
theorem x_chain {op op' : CmpOp} (ho : OpR X (compareOp op) r) (hs : OpS X.K r f) (ho' : OpR X (compareOp op') r') (hs' : OpS X.K r' f') (ha : PE X a (tE X.K w ea)) (hb : PE X b (tE X.K w eb)) (hc : PE X c (tE X.K w ec)) (hm : lastMarks [op, op'] [b, c] = false := by with_unfolding_all rfl) :
    PE X (.Compare a [op, op'] [b, c] pos) (tE X.K w (eChain f f' ea eb ec)) := PE.of (pe_chain ho ho' ha hb hc hm) fun σ H Q h => tChain_of hs hs' h
theorem xt_chain {op op' : CmpOp} (ho : OpR X (compareOp op) r) (hs : OpS X.K r f) (ho' : OpR X (compareOp op') r') (hs' : OpS X.K r' f') (ha : PE X a (tE X.K w ea)) (hb : PE X b (tE X.K w eb)) (hc : PE X c (tE X.K w ec)) (hm : lastMarks [op, op'] [b, c] = false := by with_unfolding_all rfl) :
    PT X (.Compare a [op, op'] [b, c] pos) (tT X.K w (tOf (eChain f f' ea eb ec))) := PT.of (pt_chain ho ho' ha hb hc hm) fun σ H Q h => by
  obtain ⟨Xs, st, rel, h⟩ := h
  show tChain r r' (tE X.K w ea) (tE X.K w eb) (tE X.K w ec) σ H _
  refine tChain_of hs hs' (tE_seq rel h fun x H1 rx st1 p1 v1 h1 => ?_)
  split at h1
  · next c ec =>
    have dp := v1.dp
    rw [bool?_of ec] at dp
    cases dp
    exact ⟨c, rfl, h1 H1 p1⟩
  · exact h1.elim
end
end TX

end

section
set_option Elab.async false
set_option linter.all false
set_option maxRecDepth 100000
set_option maxHeartbeats 2000000
namespace TX
open PySem L2 Evl PyProof.Rows
/-! ### comprehensions of two fors -/
section
variable {K : PySem.W.Frag} {Xs : List Addr} {Dl : Addr} {vs vs1 : List Nat} {st1 s s' stc : List Sl} {σ σ2 : L2.St} {H1 H H' : Hp} {rs : List D}
/-- between turns -/
structure Tw (K : PySem.W.Frag) (Xs : List Addr) (Dl : Addr) (vs : List Nat) (st1 : List Sl) (σ : L2.St) (H1 : Hp) (stc : List Sl) (rs : List D) (H' : Hp) : Prop where
  len : stc.length = st1.length
  no : noOwn stc vs = true
  rel : Rel K (Dl :: Xs) (wipeS stc vs) (wipe σ vs) H'
  ex : Ex (vis (Dl :: Xs) st1 σ H1) (vis (Dl :: Xs) (wipeS stc vs) (wipe σ vs) H')
  xs : ∀ x ∈ Xs, Kp (H1 x) (H' x)
  dom : ∀ a, H' a = none → H1 a = none
  ol : OwLess st1 (wipeS stc vs)
  lst : ∃ us, H' Dl = some (.lst us) ∧ DqAll K (vis (Dl :: Xs) (wipeS stc vs) (wipe σ vs) H') us rs
/-- within a turn -/
structure Tm (K : PySem.W.Frag) (Xs : List Addr) (Dl : Addr) (vs : List Nat) (st1 : List Sl) (σ : L2.St) (H1 : Hp) (s : List Sl) (σ2 : L2.St) (rs : List D) (H' : Hp) : Prop where
  len : s.length = st1.length
  rel : Rel K (Dl :: Xs) s σ2 H'
  eq : wipe σ2 vs = wipe σ vs
  ex : Ex (vis (Dl :: Xs) st1 σ H1) (vis (Dl :: Xs) s σ2 H')
  xs : ∀ x ∈ Xs, Kp (H1 x) (H' x)
  dom : ∀ a, H' a = none → H1 a = none
  ol : ∀ j es, j ∉ vs → s[j]? = some (.ow es) → ∃ es', st1[j]? = some (.ow es')
  lst : ∃ us, H' Dl = some (.lst us) ∧ DqAll K (vis (Dl :: Xs) s σ2 H') us rs
theorem post_lst {us : List V} (p : Post K (Dl :: Xs) s σ2 H s' H') (h : H Dl = some (.lst us)) : H' Dl = some (.lst us) := ((p.xs Dl List.mem_cons_self).lst h).trans h
theorem Tm.post (t : Tm K Xs Dl vs st1 σ H1 s σ2 rs H) (p : Post K (Dl :: Xs) s σ2 H s' H') : Tm K Xs Dl vs st1 σ H1 s' σ2 rs H' where
  len := by rw [p.rel.len, ← t.rel.len]; exact t.len
  rel := p.rel
  eq := t.eq
  ex := t.ex.trans p.ex
  xs := fun x hx => (t.xs x hx).trans (p.xs x (List.mem_cons_of_mem _ hx))
  dom := fun a ha => t.dom a (p.dom a ha)
  ol := fun j es hj e => by
    obtain ⟨es2, e2⟩ := p.ol j es e
    exact t.ol j es2 hj e2
  lst := by
    obtain ⟨us, h1, h2⟩ := t.lst
    exact ⟨us, post_lst p h1, dpAll_mono p.ex h2⟩
theorem Tm.to (t : Tm K Xs Dl vs st1 σ H1 s σ2 rs H) (no : noOwn s vs = true) : Tw K Xs Dl vs st1 σ H1 s rs H := by
  have hl2 : σ2.length = (wipe σ vs).length := by rw [← t.eq, wipe_length]
  obtain ⟨b1, b2⟩ := rel_wipe (vs := vs) (τ := wipe σ vs) t.rel (noOwn_of no) hl2 (fun j hj => by rw [← t.eq, wipe_get hj])
  obtain ⟨us, h1, h2⟩ := t.lst
  refine ⟨t.len, no, b1, by rw [b2]; exact t.ex, t.xs, t.dom, fun j es hj => ?_, us, h1, by rw [b2]; exact h2⟩
  by_cases hm : j ∈ vs
  · have hlt : j < s.length := by have := (List.getElem?_eq_some_iff.mp hj).1; rw [wipeS_len] at this; exact this
    rw [wipeS_in hm hlt] at hj; cases hj
  · rw [wipeS_get hm] at hj
    exact t.ol j es hm hj
theorem Tm.app {y : V} {d : D} (hn : ∀ x ∈ Xs, x ≠ Dl) (hD : H1 Dl ≠ none) (t : Tm K Xs Dl vs st1 σ H1 s σ2 rs H) (dq : Dq K (vis (Dl :: Xs) s σ2 H) y d) : ∃ acc, H Dl = some (.lst acc) ∧ acc.length = rs.length ∧ Tm K Xs Dl vs st1 σ H1 s σ2 (rs ++ [d]) (upd H Dl (.lst (acc ++ [y]))) := by
  obtain ⟨us, h1, h2⟩ := t.lst
  obtain ⟨c1, c2⟩ := rel_updH (o := .lst (us ++ [y])) ⟨us, h1⟩ t.rel
  refine ⟨us, h1, dpAll_len h2, t.len, c1, t.eq, by rw [c2]; exact t.ex, fun x hx => ?_, fun a ha => ?_, t.ol, us ++ [y], upd_same, by rw [c2]; exact dpAll_append h2 (.cons dq .nil)⟩
  · rw [upd_ne (hn x hx)]; exact t.xs x hx
  · by_cases e : a = Dl
    · rw [e, upd_same] at ha; cases ha
    · rw [upd_ne e] at ha; exact t.dom a ha
/-- a turn begins: the target has its value -/
theorem Tw.turn {H2 H3 : Hp} {sA : List Sl} (t : Tw K Xs Dl vs st1 σ H1 stc rs H) (q1 : Post K (Dl :: Xs) (wipeS stc vs) (wipe σ vs) H (wipeS stc vs) H2)
    (o1 : OwLess (wipeS stc vs) sA) (a1 : PostS K (Dl :: Xs) [] (fun _ => none) (wipeS stc vs) (wipe σ vs) H2 sA σ2 H3) (a2 : wipe σ2 vs = wipe σ vs) (hl : σ.length = st1.length) : Tm K Xs Dl vs st1 σ H1 sA σ2 rs H3 := by
  obtain ⟨us, h1, h2⟩ := t.lst
  have l1 : H2 Dl = some (.lst us) := post_lst q1 h1
  have l2 : H3 Dl = some (.lst us) := ((a1.xs Dl List.mem_cons_self).lst l1).trans l1
  refine ⟨?_, a1.rel.rel, a2, (t.ex.trans q1.ex).trans a1.ex, fun x hx => ((t.xs x hx).trans (q1.xs x (List.mem_cons_of_mem _ hx))).trans (a1.xs x (List.mem_cons_of_mem _ hx)), fun a ha => t.dom a (q1.dom a (a1.dom a ha)), fun j es hj e => ?_, us, l2, dpAll_mono (q1.ex.trans a1.ex) h2⟩
  · rw [a1.rel.rel.len, ← wipe_length σ2 vs, a2, wipe_length, hl]
  · obtain ⟨es2, e2⟩ := o1 j es e
    exact t.ol j es2 e2
/-- the inner loop begins -/
theorem Tm.inner (t : Tm K Xs Dl vs st1 σ H1 s σ2 rs H) (no : noOwn s vs1 = true) : Tw K Xs Dl vs1 s σ2 H s rs H := by
  obtain ⟨b1, b2⟩ := rel_wipe (vs := vs1) (τ := wipe σ2 vs1) t.rel (noOwn_of no) (wipe_length _ _).symm (fun j hj => (wipe_get hj).symm)
  obtain ⟨us, h1, h2⟩ := t.lst
  refine ⟨rfl, no, b1, by rw [b2]; exact Ex.refl _, fun _ _ => Kp.refl _, fun _ h => h, fun j es hj => ?_, us, h1, by rw [b2]; exact h2⟩
  by_cases hm : j ∈ vs1
  · have hlt : j < s.length := by have := (List.getElem?_eq_some_iff.mp hj).1; rw [wipeS_len] at this; exact this
    rw [wipeS_in hm hlt] at hj; cases hj
  · rw [wipeS_get hm] at hj
    exact ⟨es, hj⟩
theorem wipeS_wipeS {st : List Sl} (hv : ∀ i ∈ vs1, i ∈ vs) : wipeS (wipeS st vs1) vs = wipeS st vs := st_ext fun j => by
  by_cases hj : j ∈ vs
  · by_cases hl : j < st.length
    · rw [wipeS_in hj (by rw [wipeS_len]; exact hl), wipeS_in hj hl]
    · rw [List.getElem?_eq_none (by rw [wipeS_len, wipeS_len]; omega), List.getElem?_eq_none (by rw [wipeS_len]; omega)]
  · rw [wipeS_get hj, wipeS_get hj, wipeS_get fun z => hj (hv j z)]
/-- the inner loop ends -/
theorem Tw.out {rs' : List D} {sE : List Sl} {H5 : Hp} (t : Tm K Xs Dl vs st1 σ H1 s σ2 rs H5) (hv : ∀ i ∈ vs1, i ∈ vs) (t1 : Tw K Xs Dl vs1 s σ2 H5 sE rs' H') (no : noOwn sE vs = true) : Tw K Xs Dl vs st1 σ H1 sE rs' H' := by
  have hn : ∀ i ∈ vs, ∀ ds, (wipeS sE vs1)[i]? ≠ some (.ow ds) := fun i hi ds e => by
    by_cases hm : i ∈ vs1
    · have hlt : i < sE.length := by have := (List.getElem?_eq_some_iff.mp e).1; rw [wipeS_len] at this; exact this
      rw [wipeS_in hm hlt] at e; cases e
    · rw [wipeS_get hm] at e
      exact noOwn_of no i hi ds e
  have ag : ∀ i, i ∉ vs → (wipe σ2 vs1)[i]? = (wipe σ vs)[i]? := fun i hi => by rw [wipe_get fun z => hi (hv i z), ← t.eq, wipe_get hi]
  obtain ⟨b1, b2⟩ := rel_wipe (vs := vs) (τ := wipe σ vs) t1.rel hn (by rw [wipe_length, ← t.eq, wipe_length]) ag
  rw [wipeS_wipeS hv] at b1 b2
  obtain ⟨us, h1, h2⟩ := t1.lst
  refine ⟨t1.len.trans t.len, no, b1, by rw [b2]; exact t.ex.trans t1.ex, fun x hx => (t.xs x hx).trans (t1.xs x hx), fun a ha => t.dom a (t1.dom a ha), fun j es hj => ?_, us, h1, by rw [b2]; exact h2⟩
  by_cases hm : j ∈ vs
  · have hlt : j < sE.length := by have := (List.getElem?_eq_some_iff.mp hj).1; rw [wipeS_len] at this; exact this
    rw [wipeS_in hm hlt] at hj; cases hj
  · rw [wipeS_get hm] at hj
    obtain ⟨es2, e2⟩ := t1.ol j es (by rw [wipeS_get fun z => hm (hv j z)]; exact hj)
    exact t.ol j es2 hm e2
end
/-- the outer turns -/
def cLoop2 (vs : List Nat) (put : D → List Sl → SO) (t : EvT) (inner : List Sl → O (List D)) : List D → List Sl → O (List D)
  | [], st => .ok [] st
  | d :: r, st => match put d (wipeS st vs) with
    | .nx st1 => match t st1 with
      | .ok true st2 => match inner st2 with
        | .ok ys st3 => if noOwn st3 vs = true then (match cLoop2 vs put t inner r st3 with
          | .ok zs st4 => .ok (ys ++ zs) st4
          | _ => .no) else .no
        | _ => .no
      | .ok false st2 => if noOwn st2 vs = true then cLoop2 vs put t inner r st2 else .no
      | _ => .no
    | _ => .no
def inLoop (vs1 : List Nat) (it1 : EvI) (put1 : D → List Sl → SO) (t1 : EvT) (e : EvE) : List Sl → O (List D) := fun st => (it1 st).bind fun ds st1 => if noOwn st1 vs1 = true then cLoop vs1 put1 t1 e ds st1 else .no
def eLc2 (vs vs1 : List Nat) (it : EvI) (put : D → List Sl → SO) (t : EvT) (it1 : EvI) (put1 : D → List Sl → SO) (t1 : EvT) (e : EvE) : EvE := fun st => (it st).bind fun ds st1 => if noOwn st1 vs = true then (match cLoop2 vs put t (inLoop vs1 it1 put1 t1 e) ds st1 with
  | .ok zs st2 => if st2.length = st1.length ∧ zs.length ≤ 100000 then .ok (.lst zs, true) (backS st1 st2 vs) else .no
  | _ => .no) else .no
section
variable {X : Cx} {w : Wi} {vs vs1 : List Nat}
theorem lc2_of {K : PySem.W.Frag} {it it1 : EvI} {put put1 : D → List Sl → SO} {g g1 : TG} {t t1 : EvT} {e : EvE} {tt tt1 : TT} {σ : L2.St} {H : Hp} {Q : VK} (hv : ∀ i ∈ vs1, i ∈ vs) (hg : TgS K [] g put) (hp : PutO put) (hw : GW vs g) (hg1 : TgS K [] g1 put1) (hp1 : PutO put1) (hw1 : GW vs1 g1)
    (ht : ∀ σ H R, tT K (wF w.cl) t σ H R → tt σ H R) (ht1 : ∀ σ H R, tT K (wF w.cl) t1 σ H R → tt1 σ H R) (h : tE K w (eLc2 vs vs1 it put t it1 put1 t1 e) σ H Q) :
    tLc2 (tI K w it) g tt (tI K (wF w.cl) it1) g1 tt1 (tE K (wF w.cl) e) vs vs1 σ H Q := by
  obtain ⟨Xs, st, rel, h⟩ := h
  unfold eLc2 at h
  show tI K w it σ H _
  refine ⟨Xs, st, rel, (rdo_bind h).mono (fun ds st1 h1 J H1 C p1 S c => ?_) fun _ _ _ x => x⟩
  split at h1
  · next hc =>
    intro Dl hD
    have hn := noOwn_of hc
    cases eL : cLoop2 vs put t (inLoop vs1 it1 put1 t1 e) ds st1 with
    | ex _ _ _ => rw [eL] at h1; exact h1.elim
    | no => rw [eL] at h1; exact h1.elim
    | ok zs stE =>
      rw [eL] at h1
      dsimp only at h1
      split at h1
      · next hlE =>
        obtain ⟨hlE, hz⟩ := hlE
        have hDh := rel_hid p1.rel hD
        have hXD : ∀ x ∈ Xs, x ≠ Dl := fun x hx z => p1.rel.xs.ne x hx (by rw [z]; exact hD)
        have hDn : upd H1 Dl (.lst []) Dl ≠ none := by rw [upd_same]; simp
        obtain ⟨q, us0, es0, k1, k2, k3, k4, k5, k6⟩ := (val_newL (vs := []) (ds := []) p1.rel hD .nil).fr rfl
        cases k1
        have hlen : σ.length = st1.length := p1.rel.len.symm
        have pn := rel_new (o := .lst []) p1.rel hD
        have e01 : Ex (vis Xs st1 σ H1) (vis (Dl :: Xs) st1 σ (upd H1 Dl (.lst []))) := ex_hide (L := [Dl]) pn.ex fun x hx => by rw [List.mem_singleton.mp hx]; exact hD
        have base : Tm K Xs Dl vs st1 σ (upd H1 Dl (.lst [])) st1 σ [] (upd H1 Dl (.lst [])) := ⟨rfl, k6, rfl, Ex.refl _, fun _ _ => Kp.refl _, fun _ h => h, fun j es _ e => ⟨es, e⟩, [], upd_same, .nil⟩
        refine ⟨fun i m H' => m = ds.length - i ∧ ∃ stc rs zr, Tw K Xs Dl vs st1 σ (upd H1 Dl (.lst [])) stc rs H' ∧ cLoop2 vs put t (inLoop vs1 it1 put1 t1 e) (ds.drop i) stc = .ok zr stE ∧ rs ++ zr = zs, ⟨ds.length, rfl, st1, [], zs, base.to hc, by rw [List.drop_zero]; exact eL, rfl⟩, ?_⟩
        rintro i m H' ⟨hm, stc, rs, zr, tw, eC, eR⟩
        have cM : C (vis (Dl :: Xs) (wipeS stc vs) (wipe σ vs) H') := S.mono _ _ (e01.trans tw.ex) c
        by_cases hi : i < ds.length
        · right
          refine ⟨S.go i H' _ msk_ex cM hi, fun H2 => ds.length - (i + 1) = ds.length - (i + 1) ∧ ∃ stc rs zr, Tw K Xs Dl vs st1 σ (upd H1 Dl (.lst [])) stc rs H2 ∧ cLoop2 vs put t (inLoop vs1 it1 put1 t1 e) (ds.drop (i + 1)) stc = .ok zr stE ∧ rs ++ zr = zs, fun H2 q => ⟨_, by omega, q⟩, fun x H2 hy => ?_⟩
          have hd : ds[i]? = some ds[i] := List.getElem?_eq_getElem hi
          obtain ⟨q1, q2⟩ := S.yld (Dl :: Xs) (wipeS stc vs) (wipe σ vs) i H' x H2 ds[i] tw.rel cM hd hy
          rw [List.drop_eq_getElem_cons hi] at eC
          unfold cLoop2 at eC
          have hput : put ds[i] (wipeS stc vs) ≠ .no := fun z => by rw [z] at eC; cases eC
          obtain ⟨s1, e1, o1⟩ := hp _ _ hput
          rw [e1] at eC
          dsimp only at eC
          have R0 : RelS K (Dl :: Xs) [] (fun _ => none) (wipeS stc vs) (wipe σ vs) H2 := ⟨q1.rel, fun _ _ _ _ _ _ => rfl, fun _ _ => rfl⟩
          have hwp : wipe (wipe σ vs) vs = wipe σ vs := wipe_wipe
          refine hw x (wipe σ vs) H2 _ hwp (hg w (Dl :: Xs) (fun _ => none) (wipeS stc vs) (wipe σ vs) H2 ⟨fun σ2 H3 => wipe σ2 vs = wipe σ vs → _, fun _ _ => True, fun _ _ => True, fun _ _ => True⟩ x ds[i] R0 q2 ?_)
          rw [e1]
          intro σ2 H3 a1 a2
          have tm1 := tw.turn q1 o1 a1 a2 hlen
          refine ht σ2 H3 _ ⟨Dl :: Xs, s1, a1.rel.rel, ?_⟩
          cases et : t s1 with
          | ex _ _ _ => rw [et] at eC; cases eC
          | no => rw [et] at eC; cases eC
          | ok b s2 =>
            rw [et] at eC
            intro H4 p2
            have tm2 := tm1.post p2
            cases b with
            | false =>
              rw [if_neg (by simp)]
              dsimp only at eC
              split at eC
              · next a4 => exact ⟨rfl, s2, rs, zr, tm2.to a4, eC, eR⟩
              · cases eC
            | true =>
              rw [if_pos rfl]
              dsimp only at eC
              unfold inLoop at eC
              refine ⟨Dl :: Xs, s2, p2.rel, ?_⟩
              cases ei : it1 s2 with
              | ex _ _ _ => rw [ei] at eC; cases eC
              | no => rw [ei] at eC; cases eC
              | ok ds1 s3 =>
                rw [ei] at eC
                intro J1 H5 C1 p3 S1 c1
                have tm3 := tm2.post p3
                have eC : (match (if noOwn s3 vs1 = true then cLoop vs1 put1 t1 e ds1 s3 else .no : O (List D)) with
                  | .ok ys st3 => if noOwn st3 vs = true then (match cLoop2 vs put t (inLoop vs1 it1 put1 t1 e) (ds.drop (i + 1)) st3 with
                    | .ok zs st4 => O.ok (ys ++ zs) st4
                    | _ => .no) else .no
                  | _ => .no) = .ok zr stE := eC
                split at eC
                · next ys sI eI =>
                  split at eI
                  · next no1 =>
                    split at eC
                    · next noE =>
                      split at eC
                      · next zs4 st4 eT =>
                        cases eC
                        -- the inner turns
                        refine ⟨fun j k H' => k = ds1.length - j ∧ ∃ stc1 rs1 zr1, Tw K Xs Dl vs1 s3 σ2 H5 stc1 rs1 H' ∧ cLoop vs1 put1 t1 e (ds1.drop j) stc1 = .ok zr1 sI ∧ rs1 ++ zr1 = rs ++ ys, ⟨ds1.length, rfl, s3, rs, ys, tm3.inner no1, by rw [List.drop_zero]; exact eI, rfl⟩, ?_⟩
                        rintro j k H6 ⟨hk, stc1, rs1, zr1, tw1, eC1, eR1⟩
                        have cM1 : C1 (vis (Dl :: Xs) (wipeS stc1 vs1) (wipe σ2 vs1) H6) := S1.mono _ _ tw1.ex c1
                        have hlen2 : σ2.length = s3.length := p3.rel.len.symm
                        by_cases hj : j < ds1.length
                        · right
                          refine ⟨S1.go j H6 _ msk_ex cM1 hj, fun H7 => ds1.length - (j + 1) = ds1.length - (j + 1) ∧ ∃ stc1 rs1 zr1, Tw K Xs Dl vs1 s3 σ2 H5 stc1 rs1 H7 ∧ cLoop vs1 put1 t1 e (ds1.drop (j + 1)) stc1 = .ok zr1 sI ∧ rs1 ++ zr1 = rs ++ ys, fun H7 q => ⟨_, by omega, q⟩, fun x H7 hy1 => ?_⟩
                          have hd1 : ds1[j]? = some ds1[j] := List.getElem?_eq_getElem hj
                          obtain ⟨q3, q4⟩ := S1.yld (Dl :: Xs) (wipeS stc1 vs1) (wipe σ2 vs1) j H6 x H7 ds1[j] tw1.rel cM1 hd1 hy1
                          rw [List.drop_eq_getElem_cons hj] at eC1
                          unfold cLoop at eC1
                          have hput1 : put1 ds1[j] (wipeS stc1 vs1) ≠ .no := fun z => by rw [z] at eC1; cases eC1
                          obtain ⟨s4, e4, o4⟩ := hp1 _ _ hput1
                          rw [e4] at eC1
                          dsimp only at eC1
                          have R1 : RelS K (Dl :: Xs) [] (fun _ => none) (wipeS stc1 vs1) (wipe σ2 vs1) H7 := ⟨q3.rel, fun _ _ _ _ _ _ => rfl, fun _ _ => rfl⟩
                          have hwp1 : wipe (wipe σ2 vs1) vs1 = wipe σ2 vs1 := wipe_wipe
                          refine hw1 x (wipe σ2 vs1) H7 _ hwp1 (hg1 w (Dl :: Xs) (fun _ => none) (wipeS stc1 vs1) (wipe σ2 vs1) H7 ⟨fun σ3 H8 => wipe σ3 vs1 = wipe σ2 vs1 → _, fun _ _ => True, fun _ _ => True, fun _ _ => True⟩ x ds1[j] R1 q4 ?_)
                          rw [e4]
                          intro σ3 H8 a5 a6
                          have tm5 := tw1.turn q3 o4 a5 a6 hlen2
                          refine ht1 σ3 H8 _ ⟨Dl :: Xs, s4, a5.rel.rel, ?_⟩
                          cases et1 : t1 s4 with
                          | ex _ _ _ => rw [et1] at eC1; cases eC1
                          | no => rw [et1] at eC1; cases eC1
                          | ok b1 s5 =>
                            rw [et1] at eC1
                            intro H9 p5
                            have tm6 := tm5.post p5
                            cases b1 with
                            | false =>
                              rw [if_neg (by simp)]
                              dsimp only at eC1
                              split at eC1
                              · next a7 => exact ⟨rfl, s5, rs1, zr1, tm6.to a7, eC1, eR1⟩
                              · cases eC1
                            | true =>
                              rw [if_pos rfl]
                              dsimp only at eC1
                              refine ⟨Dl :: Xs, s5, p5.rel, ?_⟩
                              cases ee : e s5 with
                              | ex _ _ _ => rw [ee] at eC1; cases eC1
                              | no => rw [ee] at eC1; cases eC1
                              | ok z s6 =>
                                rw [ee] at eC1
                                dsimp only at eC1
                                intro y H10 p6 v6
                                have tm7 := tm6.post p6
                                split at eC1
                                · next a8 =>
                                  split at eC1
                                  · next zs' st9 eL' =>
                                    cases eC1
                                    have hD5 : H5 Dl ≠ none := fun z => hDn (tm3.dom Dl z)
                                    obtain ⟨acc, w1, w2, w3⟩ := tm7.app hXD hD5 v6.dp
                                    have hsz : acc.length < sizeLine := by
                                      have l1 : rs1.length + (zs'.length + 1) = rs.length + ys.length := by
                                        have := congrArg List.length eR1
                                        rw [List.length_append, List.length_append, List.length_cons] at this
                                        exact this
                                      have l2 : rs.length + (ys.length + zs4.length) = zs.length := by
                                        have := congrArg List.length eR
                                        rw [List.length_append, List.length_append] at this
                                        exact this
                                      unfold sizeLine
                                      omega
                                    exact ⟨acc, w1, hsz, rfl, s6, rs1 ++ [z.1], zs', w3.to a8, eL', by rw [List.append_assoc]; exact eR1⟩
                                  · cases eC1
                                · cases eC1
                        · left
                          have ed1 : ds1.drop j = [] := List.drop_eq_nil_of_le (by omega)
                          rw [ed1] at eC1
                          have eC1' : (O.ok [] stc1 : O (List D)) = .ok zr1 sI := eC1
                          cases eC1'
                          rw [List.append_nil] at eR1
                          subst eR1
                          exact ⟨S1.stop j H6 _ msk_ex cM1 (by omega), rfl, sI, rs ++ ys, zs4, Tw.out tm3 hv tw1 noE, eT, by rw [List.append_assoc]; exact eR⟩
                      · cases eC
                    · cases eC
                  · cases eI
                · cases eC
        · left
          have ed : ds.drop i = [] := List.drop_eq_nil_of_le (by omega)
          rw [ed] at eC
          have eC' : (O.ok [] stc : O (List D)) = .ok zr stE := eC
          cases eC'
          rw [List.append_nil] at eR
          subst eR
          refine ⟨S.stop i H' _ msk_ex cM (by omega), ?_⟩
          obtain ⟨us, hD', dq'⟩ := tw.lst
          obtain ⟨u1, u2⟩ := rel_unwipe k6 hn tw.rel hlE tw.ex
          obtain ⟨t1, t2⟩ := rel_show (L := [Dl]) (fun P hP => (p1.rel.xs.tb P hP).1) u1
          have xs' : ∀ x ∈ Xs, Kp (H1 x) (H' x) := fun x hx => by
            have := tw.xs x hx
            rw [upd_ne (hXD x hx)] at this
            exact this
          have dm' : ∀ a, H' a = none → H1 a = none := fun a ha => by
            have := tw.dom a ha
            by_cases e : a = Dl
            · rw [e]; exact hD
            · rw [upd_ne e] at this; exact this
          have ex' : Ex (vis Xs st1 σ H1) (vis (Dl :: Xs) (wipeS stE vs) (wipe σ vs) H') := e01.trans tw.ex
          have tp : Post K Xs st1 σ H1 (backS st1 stE vs) H' := ⟨t1, (by rw [← u2] at ex'; exact ex'.trans t2), xs', dm', fun j es hj => by
            by_cases hm2 : j ∈ vs
            · have hlt : j < stE.length := by have := (List.getElem?_eq_some_iff.mp hj).1; rw [backS_len] at this; exact this
              rw [backS_in hm2 hlt hlE.symm] at hj
              exact ⟨es, hj⟩
            · rw [backS_get hm2] at hj
              exact tw.ol j es (by rw [wipeS_get hm2]; exact hj)⟩
          have dq2 : DqAll K (vis (Dl :: Xs) (backS st1 stE vs) σ H') us rs := by rw [u2]; exact dq'
          refine h1 (.ref Dl) H' (p1.trans tp) ⟨.lst ?_ (dpAll_mono t2 dq2), fun _ => ⟨Dl, us, rs, rfl, rfl, p1.dom Dl hD, hD', dq2, u1⟩⟩
          have hh : Dl ∉ hid Xs (backS st1 stE vs) σ := fun z => by
            have := u1.nd
            rw [show hid (Dl :: Xs) (backS st1 stE vs) σ = ownd (backS st1 stE vs) σ ++ Dl :: Xs from rfl] at this
            exact (List.nodup_cons.mp (List.perm_middle.nodup_iff.mp this)).1 z
          show msk _ H' Dl = _
          rw [msk_out hh]
          exact hD'
      · exact h1.elim
  · exact h1.elim
end
end TX
namespace TX
open PySem L2 Evl PyProof.Rows
section
variable {X : Cx} {w : Wi} {vs1 : List Nat} {elt tg iter tg1 iter1 : Expr} {ifs ifs1 : List Expr} {scope : Scope} {own : List (Str × Nat)} {pos : Pos} {it it1 : EvI} {g g1 : TG} {put put1 : D → List Sl → SO} {t t1 : EvT} {e : EvE} {tt tt1 : TT}
theorem ttN {K : PySem.W.Frag} {w : Wi} {σ : L2.St} {H : Hp} {R : Bool → Hp → Prop} (q : tT K w tTrue σ H R) : R true H := by
  obtain ⟨Xs, st, rel, q⟩ := q
  exact q H (Post.refl rel)
theorem x_lc2 (hc : X.calm = true) (hN : X.N.Nodup) (hi : PI X tg iter (tI X.K w it)) (ok : BlkOk X.N X.env.scope scope own) (hv : ∀ i ∈ vs1, i ∈ own.map (·.2)) (hw : GW (own.map (·.2)) g) (hgS : TgS X.K [] g put) (hp : PutO put) (hw1 : GW vs1 g1) (hgS1 : TgS X.K [] g1 put1) (hp1 : PutO put1)
    (hg : ∀ (s : Shared) (H : Hp) (C : Addr) (cl : List (Str × Addr)) (fp : List Addr), PG (X.blk s H scope (compEnvC scope cl C X.env) fp) tg g) (ht : ∀ (s : Shared) (H : Hp) (C : Addr) (cl : List (Str × Addr)) (fp : List Addr), PTs (X.blk s H scope (compEnvC scope cl C X.env) fp) ifs tt)
    (hi1 : ∀ (s : Shared) (H : Hp) (C : Addr) (cl : List (Str × Addr)) (fp : List Addr), PI (X.blk s H scope (compEnvC scope cl C X.env) fp) tg1 iter1 (tI X.K (wF w.cl) it1))
    (hg1 : ∀ (s : Shared) (H : Hp) (C : Addr) (cl : List (Str × Addr)) (fp : List Addr), PG (X.blk s H scope (compEnvC scope cl C X.env) fp) tg1 g1) (ht1 : ∀ (s : Shared) (H : Hp) (C : Addr) (cl : List (Str × Addr)) (fp : List Addr), PTs (X.blk s H scope (compEnvC scope cl C X.env) fp) ifs1 tt1)
    (he : ∀ (s : Shared) (H : Hp) (C : Addr) (cl : List (Str × Addr)) (fp : List Addr), PE (X.blk s H scope (compEnvC scope cl C X.env) fp) elt (tE X.K (wF w.cl) e))
    (hq : ∀ σ H R, tT X.K (wF w.cl) t σ H R → tt σ H R) (hq1 : ∀ σ H R, tT X.K (wF w.cl) t1 σ H R → tt1 σ H R)
    (hs : ∀ x, foldedSetIterable iter X.env x = pure x := by intro _; rfl) (hs1 : ∀ env x, foldedSetIterable iter1 env x = pure x := by intro _ _; rfl) :
    PE X (.ListComp elt [⟨tg, iter, ifs, 0⟩, ⟨tg1, iter1, ifs1, 0⟩] scope pos) (tE X.K w (eLc2 (own.map (·.2)) vs1 it put t it1 put1 t1 e)) :=
  PE.of (pe_lc2 hc hN hi ok hv hg ht hi1 hg1 ht1 he hs hs1) fun σ H Q h => lc2_of hv hgS hp hw hgS1 hp1 hw1 hq hq1 h
theorem xs_setLc2 {P : List Nat} (i : Nat) {y : Str} {py spos : Pos} (hc : X.calm = true) (hN : X.N.Nodup) (hi : PI X tg iter (tI X.K w it)) (ok : BlkOk X.N X.env.scope scope own) (hv : ∀ i ∈ vs1, i ∈ own.map (·.2)) (hw : GW (own.map (·.2)) g) (hgS : TgS X.K [] g put) (hp : PutO put) (hw1 : GW vs1 g1) (hgS1 : TgS X.K [] g1 put1) (hp1 : PutO put1)
    (hg : ∀ (s : Shared) (H : Hp) (C : Addr) (cl : List (Str × Addr)) (fp : List Addr), PG (X.blk s H scope (compEnvC scope cl C X.env) fp) tg g) (ht : ∀ (s : Shared) (H : Hp) (C : Addr) (cl : List (Str × Addr)) (fp : List Addr), PTs (X.blk s H scope (compEnvC scope cl C X.env) fp) ifs tt)
    (hi1 : ∀ (s : Shared) (H : Hp) (C : Addr) (cl : List (Str × Addr)) (fp : List Addr), PI (X.blk s H scope (compEnvC scope cl C X.env) fp) tg1 iter1 (tI X.K (wF w.cl) it1))
    (hg1 : ∀ (s : Shared) (H : Hp) (C : Addr) (cl : List (Str × Addr)) (fp : List Addr), PG (X.blk s H scope (compEnvC scope cl C X.env) fp) tg1 g1) (ht1 : ∀ (s : Shared) (H : Hp) (C : Addr) (cl : List (Str × Addr)) (fp : List Addr), PTs (X.blk s H scope (compEnvC scope cl C X.env) fp) ifs1 tt1)
    (he : ∀ (s : Shared) (H : Hp) (C : Addr) (cl : List (Str × Addr)) (fp : List Addr), PE (X.blk s H scope (compEnvC scope cl C X.env) fp) elt (tE X.K (wF w.cl) e))
    (hq : ∀ σ H R, tT X.K (wF w.cl) t σ H R → tt σ H R) (hq1 : ∀ σ H R, tT X.K (wF w.cl) t1 σ H R → tt1 σ H R) (hy : X.N[i]? = some y := by rfl) (hyl : X.env.scope.names.lookup y = some .local := by rfl)
    (hsw : swapsWith (.ListComp elt [⟨tg, iter, ifs, 0⟩, ⟨tg1, iter1, ifs1, 0⟩] scope pos) (some (.Name y py)) spos.line X.env = pure true := by rfl)
    (hs : ∀ x, foldedSetIterable iter X.env x = pure x := by intro _; rfl) (hs1 : ∀ env x, foldedSetIterable iter1 env x = pure x := by intro _ _; rfl) :
    PS X (.Assign [.Name y py] (.ListComp elt [⟨tg, iter, ifs, 0⟩, ⟨tg1, iter1, ifs1, 0⟩] scope pos) spos) (tS X.K w P (sSet P i (eLc2 (own.map (·.2)) vs1 it put t it1 put1 t1 e))) :=
  PS.of (ps_setLc2 hc hN hy hyl hsw hi ok hv hg ht hi1 hg1 ht1 he hs hs1) fun Dn σ H h => by
    have h2 : tE X.K w (eLc2 (own.map (·.2)) vs1 it put t it1 put1 t1 e) σ H (fun v H1 => gName i v σ H1 Dn.nx) := set_of h
    exact lc2_of hv hgS hp hw hgS1 hp1 hw1 hq hq1 h2
end
end TX

end

section
set_option Elab.async false
set_option linter.all false
set_option maxRecDepth 100000
set_option maxHeartbeats 2000000
/-! zip of any number of tuples: its next -/
namespace PySem
open Sem (wp)
section
variable {prog : Program} {w : World} {A : Around} {E : Value → Shared → Prop} {s : Shared}
/-- a loop all of whose steps go on as they came -/
theorem wpAny_forIn_on {M : Model} {A : Around} {α β : Type} {B : α → β → Sem (ForInStep β)} {b : β} {Q : β → Shared → Prop} {E : Value → Shared → Prop} (I : Nat → Shared → Prop) : ∀ (L : List α) (i : Nat) (s : Shared), (∀ k p s, L[k]? = some p → I (i + k) s → wpAny M A (B p b) (fun r s' => r = .yield b ∧ I (i + k + 1) s') E s) → I i s → (∀ s', I (i + L.length) s' → Q b s') →
    wpAny M A (forIn L b B) Q E s
  | [], i, s, _, h0, hq => by
    rw [List.forIn_nil]
    exact wpAny_pure (hq s h0)
  | p :: L, i, s, hs, h0, hq => by
    rw [List.forIn_cons]
    refine wpAny_bind (L2.thn (hs 0 p s rfl h0) fun r s' ⟨e, h1⟩ => ?_)
    subst e
    refine wpAny_forIn_on I L (i + 1) s' (fun k q s hk h => ?_) h1 fun s'' h => hq s'' ?_
    · have e : i + 1 + k = i + (k + 1) := by omega
      rw [e] at h ⊢
      exact hs (k + 1) q s hk h
    · have e : i + 1 + L.length = i + (L.length + 1) := by omega
      rw [e] at h
      exact h
abbrev IsTupN (h : Heap) (T : Addr) (vs : Array Value) : Prop := h.get? T = some { cls := .type "tuple", data := .seq vs }
structure ApN (z TI TO : Addr) (is ls : List Addr) : Prop where
  TIz : TI ≠ z
  TOz : TO ≠ z
  TITO : TI ≠ TO
  iz : ∀ i ∈ is, i ≠ z
  iTI : ∀ i ∈ is, TI ≠ i
  iTO : ∀ i ∈ is, TO ≠ i
  nd : is.Nodup
  lz : ∀ l ∈ ls, l ≠ z
  lTO : ∀ l ∈ ls, l ≠ TO
  li : ∀ l ∈ ls, ∀ i ∈ is, l ≠ i
/-- amid a step: the first i drawn -/
structure ZnAt (z TI TO : Addr) (is ls : List Addr) (X : List (Array Value)) (j : Nat) (h0 : Heap) (i : Nat) (h : Heap) : Prop where
  hz : IsZip h z TI TO .ellipsis
  to : ∃ vs : Array Value, IsTupN h TO vs ∧ vs.size = is.length ∧ ∀ (k : Nat) (x : Array Value) (v : Value), k < i → X[k]? = some x → x[j]? = some v → vs[k]? = some v
  it : ∀ (k : Nat) (a l : Addr), is[k]? = some a → ls[k]? = some l → h.IsTupleIter a l (if k < i then j + 1 else j)
  tp : ∀ (k : Nat) (l : Addr) (x : Array Value), ls[k]? = some l → X[k]? = some x → h.IsTuple l x
  sz : h.objs.size = h0.objs.size
  kp : ∀ c o, c ≠ z → c ≠ TO → c ∉ is → h0.get? c = some o → h.get? c = some o
theorem nodup_get {L : List Addr} (h : L.Nodup) {i k : Nat} {a : Addr} (h1 : L[i]? = some a) (h2 : L[k]? = some a) : i = k := by
  exact (List.getElem?_inj (List.getElem?_eq_some_iff.mp h1).1 h).mp (h1.trans h2.symm)
/-- one draw -/
theorem ZnAt.step {z TI TO : Addr} {is ls : List Addr} {X : List (Array Value)} {j i : Nat} {h0 h h2 h3 : Heap} {a l : Addr} {x vs : Array Value} {v : Value} (D : ApN z TI TO is ls) (S : ZnAt z TI TO is ls X j h0 i h) (ha : is[i]? = some a) (hl : ls[i]? = some l) (hX : X[i]? = some x) (hv : x[j]? = some v)
    (hit : h2.IsTupleIter a l (j + 1)) (s2 : Heap.SameBut a h h2) (hT : IsTupN h2 TO vs) (hvs : vs.size = is.length) (hold : ∀ (k : Nat) (x : Array Value) (v : Value), k < i → X[k]? = some x → x[j]? = some v → vs[k]? = some v) (hT3 : IsTupN h3 TO (vs.setIfInBounds i v)) (s3 : Heap.SameBut TO h2 h3) : ZnAt z TI TO is ls X j h0 (i + 1) h3 := by
  have ai : a ∈ is := List.mem_of_getElem? ha
  have hi : i < is.length := (List.getElem?_eq_some_iff.mp ha).1
  refine ⟨?_, ⟨_, hT3, by rw [Array.size_setIfInBounds]; exact hvs, fun k y u hk hy hu => ?_⟩, fun k b m hb hm => ?_, fun k m y hm hy => ?_, ?_, fun c o c1 c2 c3 e => ?_⟩
  · exact s3.extBut _ _ D.TOz.symm (s2.extBut _ _ (D.iz a ai).symm S.hz)
  · by_cases e : k = i
    · subst e
      rw [hX] at hy
      cases hy
      rw [hv] at hu
      cases hu
      rw [Array.getElem?_setIfInBounds_self_of_lt (by omega)]
    · rw [Array.getElem?_setIfInBounds_ne (Ne.symm e)]
      exact hold k y u (by omega) hy hu
  · have bi : b ∈ is := List.mem_of_getElem? hb
    by_cases e : k = i
    · subst e
      rw [ha] at hb; cases hb
      rw [hl] at hm; cases hm
      rw [if_pos (Nat.lt_succ_self k)]
      exact hit.extBut s3.extBut (D.iTO a ai).symm
    · have hne : b ≠ a := fun z => e (nodup_get D.nd hb (by rw [z]; exact ha))
      have := S.it k b m hb hm
      have ec : (if k < i + 1 then j + 1 else j) = if k < i then j + 1 else j := by
        by_cases h1 : k < i
        · rw [if_pos h1, if_pos (by omega)]
        · rw [if_neg h1, if_neg (by omega)]
      rw [ec]
      exact (this.extBut s2.extBut hne).extBut s3.extBut (D.iTO b bi).symm
  · have ml : m ∈ ls := List.mem_of_getElem? hm
    exact ((S.tp k m y hm hy).extBut s2.extBut (D.li m ml a ai)).extBut s3.extBut (D.lTO m ml)
  · rw [s3.1, s2.1, S.sz]
  · exact s3.extBut _ _ c2 (s2.extBut _ _ (fun q => c3 (by rw [q]; exact ai)) (S.kp c o c1 c2 c3 e))

theorem updateSeq_tup {M : Model} {T : Addr} {vs : Array Value} {x : Value} {k : Nat} {Q : Unit → Shared → Prop} (hT : IsTupN s.heap T vs) (hsz : vs.size ≤ sizeLine)
    (h : ∀ h', IsTupN h' T (vs.setIfInBounds k x) → Heap.SameBut T s.heap h' → Q () { s with heap := h' }) :
    wpAny M A (updateSeq T (·.setIfInBounds k x)) Q E s := by
  refine wpAny_updateSeq hT rfl (h _ ?_ (Heap.SameBut.update ..)) hsz (by rw [Array.size_setIfInBounds]; omega)
  show Heap.get? _ _ = _
  rw [Heap.get?_update_self _ hT rfl]
  simp [Obj.mapSeq]
theorem zipIdx_at {is : List Addr} {k : Nat} {p : Value × Nat} (h : (is.map Value.ref).toArray.toList.zipIdx[k]? = some p) : ∃ a, is[k]? = some a ∧ p = (.ref a, k) := by
  rw [List.getElem?_zipIdx] at h
  simp only [List.getElem?_map] at h
  cases e : is[k]? with
  | none => rw [e] at h; simp at h
  | some a => rw [e] at h; simp at h; exact ⟨a, rfl, h.symm⟩
theorem zipN_item {z TI TO : Addr} {is ls : List Addr} {X : List (Array Value)} {j : Nat} {Q : Value → Shared → Prop} (D : ApN z TI TO is ls) (hne : is ≠ []) (hl : ls.length = is.length) (hX : X.length = is.length) (hsz : is.length ≤ sizeLine)
    (hz : IsZip s.heap z TI TO .none) (hTI : IsTupN s.heap TI (is.map Value.ref).toArray) (hTO : ∃ vs : Array Value, IsTupN s.heap TO vs ∧ vs.size = is.length)
    (hit : ∀ (k : Nat) (a l : Addr), is[k]? = some a → ls[k]? = some l → s.heap.IsTupleIter a l j) (htp : ∀ (k : Nat) (l : Addr) (x : Array Value), ls[k]? = some l → X[k]? = some x → s.heap.IsTuple l x)
    (hx : ∀ (k : Nat) (x : Array Value), X[k]? = some x → ∃ v, x[j]? = some v)
    (hQ : ∀ (h' : Heap) (ws : Array Value), IsZip h' z TI TO (rawInt s.heap.objs.size) → IsTupN h' TO ws → (∀ (k : Nat) (a l : Addr), is[k]? = some a → ls[k]? = some l → h'.IsTupleIter a l (j + 1)) → IsTupN h' s.heap.objs.size ws → ws.size = is.length → (∀ (k : Nat) (x : Array Value) (v : Value), X[k]? = some x → x[j]? = some v → ws[k]? = some v) → h'.objs.size = s.heap.objs.size + 1 →
      (∀ c o, c ≠ z → c ≠ TO → c ∉ is → s.heap.get? c = some o → h'.get? c = some o) → Q (.ref s.heap.objs.size) { s with heap := h' }) :
    wpAny (model prog w) A (Builtin.«zip.__next__» ⟨[.ref z], []⟩) (fun fin s' => ∃ v, fin = .done (.ret v) ∧ Q v s') E s := by
  obtain ⟨vs0, hT0, hv0⟩ := hTO
  have hemp : (is.map Value.ref).toArray.isEmpty = false := by
    cases is with
    | nil => exact absurd rfl hne
    | cons a r => rfl
  show wpAny _ _ (field (.ref z) 2 >>= _) _ _ _
  refine wpAny_bind (wpAny_field hz rfl (x := .bool false) rfl ?_)
  show wpAny _ _ (field (.ref z) 3 >>= _) _ _ _
  refine wpAny_bind (wpAny_field hz rfl (x := .ref TI) rfl ?_)
  refine wpAny_bind (wpAny_seqItems hTI rfl ?_)
  simp only [hemp]
  show wpAny _ _ (Builtin.SmallTypes.ownedTupleIsFree (.ref z) >>= _) _ _ _
  refine wpAny_bind ?_
  unfold Builtin.SmallTypes.ownedTupleIsFree
  refine wpAny_bind (wpAny_field hz rfl (x := .none) rfl (wpAny_pure ?_))
  simp only [if_true]
  refine wpAny_bind (wpAny_rule ?_)
  refine wpAny_bind (wpAny_field hz rfl (x := .ref TO) rfl ?_)
  refine wpAny_bind (wpAny_setField_rec hz (by simp) fun h₁ hz₁ hs₁ => ?_)
  replace hz₁ : IsZip h₁ z TI TO .ellipsis := hz₁
  refine wpAny_bind ?_
  have start : ZnAt z TI TO is ls X j s.heap 0 h₁ := ⟨hz₁, ⟨vs0, hs₁.extBut _ _ D.TOz hT0, hv0, fun k _ _ hk _ _ => by omega⟩, fun k a l ha hl' => by
    rw [if_neg (Nat.not_lt_zero k)]
    exact (hit k a l ha hl').extBut hs₁.extBut (D.iz a (List.mem_of_getElem? ha)), fun k l x h1 h2 => (htp k l x h1 h2).extBut hs₁.extBut (D.lz l (List.mem_of_getElem? h1)), hs₁.1, fun c o c1 _ _ e => hs₁.extBut _ _ c1 e⟩
  refine wpAny_forIn_on (fun i s' => ∃ h', s' = { s with heap := h' } ∧ ZnAt z TI TO is ls X j s.heap i h') _ 0 _ ?_ ⟨h₁, rfl, start⟩ ?_
  · rintro k p s' hp ⟨h, rfl, S⟩
    rw [Nat.zero_add] at S
    obtain ⟨a, ha, rfl⟩ := zipIdx_at hp
    have hk : k < is.length := (List.getElem?_eq_some_iff.mp ha).1
    obtain ⟨l, hl'⟩ : ∃ l, ls[k]? = some l := ⟨_, List.getElem?_eq_getElem (by omega)⟩
    obtain ⟨x, hx'⟩ : ∃ x, X[k]? = some x := ⟨_, List.getElem?_eq_getElem (by omega)⟩
    obtain ⟨v, hv⟩ := hx k x hx'
    obtain ⟨vs, hT, hvs, hold⟩ := S.to
    have it0 := S.it k a l ha hl'
    rw [if_neg (Nat.lt_irrefl k)] at it0
    have ai : a ∈ is := List.mem_of_getElem? ha
    refine wpAny_bind (wpAny_onRaise ?_)
    show wpAny _ _ (Builtin.SmallTypes.nextOf (.ref a) >>= _) _ _ _
    refine wpAny_bind (RZ.nextOf_tuple_item it0 (S.tp k l x hl' hx') hv fun h2 hit2 hs2 => wpAny_pure ?_)
    have hT2 : IsTupN h2 TO vs := hs2.extBut _ _ (D.iTO a ai) hT
    refine wpAny_bind (wpAny_seqItems hT2 rfl ?_)
    refine wpAny_bind (updateSeq_tup hT2 (by omega) fun h3 hT3 hs3 => ?_)
    refine wpAny_bind (wpAny_letGo (wpAny_pure ⟨rfl, h3, rfl, ?_⟩))
    rw [Nat.zero_add]
    exact S.step D ha hl' hx' hv hit2 hs2 hT2 hvs hold hT3 hs3
  · rintro s' ⟨h, rfl, S⟩
    have elen : 0 + (is.map Value.ref).toArray.toList.zipIdx.length = is.length := by simp
    rw [elen] at S
    obtain ⟨vs, hT, hvs, hold⟩ := S.to
    dsimp only
    refine wpAny_bind (wpAny_seqItems hT rfl ?_)
    refine wpAny_bind (wpAny_newTuple ?_ (by simp; omega))
    have hzlt : z < h.objs.size := Heap.lt_size S.hz
    show wpAny _ _ (Builtin.SmallTypes.ownedTupleHandOut (.ref z) (.ref h.objs.size) >>= _) _ _ _
    refine wpAny_bind ?_
    unfold Builtin.SmallTypes.ownedTupleHandOut
    have ea : vs.toList.toArray = vs := by simp
    rw [ea]
    have hz₆ : IsZip (h.push { cls := .type "tuple", data := .seq vs }) z TI TO .ellipsis := Heap.get?_push_of_some _ S.hz
    refine wpAny_bind (wpAny_setField_rec hz₆ (by simp) fun h₇ hz₇ hs₇ => ?_)
    replace hz₇ : IsZip h₇ z TI TO (rawInt h.objs.size) := hz₇
    refine wpAny_setField_rec hz₇ (by simp) fun h₈ hz₈ hs₈ => ?_
    replace hz₈ : IsZip h₈ z TI TO (rawInt h.objs.size) := hz₈
    have up : ∀ c o, c ≠ z → h.get? c = some o → h₈.get? c = some o := fun c o c1 e => hs₈.extBut _ _ c1 (hs₇.extBut _ _ c1 (Heap.get?_push_of_some _ e))
    have hT₈ : IsTupN h₈ h.objs.size vs := hs₈.extBut _ _ (Nat.ne_of_gt hzlt) (hs₇.extBut _ _ (Nat.ne_of_gt hzlt) (Heap.get?_push_size _ rfl))
    have hz8 : h₈.objs.size = h.objs.size + 1 := by rw [hs₈.1, hs₇.1, Heap.size_push]
    rw [S.sz] at hz₈ hT₈ hz8
    refine wpAny_pure ⟨_, rfl, ?_⟩
    show Q (.ref h.objs.size) _
    rw [S.sz]
    refine hQ h₈ vs hz₈ (up _ _ D.TOz hT) (fun k a l ha hl' => ?_) hT₈ hvs (fun k x v h1 h2 => ?_) hz8 fun c o c1 c2 c3 e => up c o c1 (S.kp c o c1 c2 c3 e)
    · have := S.it k a l ha hl'
      rw [if_pos (List.getElem?_eq_some_iff.mp ha).1] at this
      exact this.at fun o e => up _ o (D.iz a (List.mem_of_getElem? ha)) e
    · exact hold k x v (by rw [← hX]; exact (List.getElem?_eq_some_iff.mp h1).1) h1 h2
theorem zipN_end {z TI TO a l : Addr} {r : List Addr} {j : Nat} {x vs0 : Array Value} {Q : Fin → Shared → Prop} (hh : A.handled = none) (hza : a ≠ z) (hzl : l ≠ z) (hTOz : TO ≠ z)
    (hz : IsZip s.heap z TI TO .none) (hTI : IsTupN s.heap TI ((a :: r).map Value.ref).toArray) (hit : s.heap.IsTupleIter a l j) (htp : s.heap.IsTuple l x) (hx : x[j]? = none)
    (hE : ∀ h' e, (∀ c o, c ≠ z → c ≠ a → s.heap.get? c = some o → h'.get? c = some o) → (∃ o, h'.get? e = some o ∧ o.cls = .type "StopIteration") → E (.ref e) { s with heap := h' }) :
    wpAny (model prog w) A (Builtin.«zip.__next__» ⟨[.ref z], []⟩) Q E s := by
  show wpAny _ _ (field (.ref z) 2 >>= _) _ _ _
  refine wpAny_bind (wpAny_field hz rfl (x := .bool false) rfl ?_)
  show wpAny _ _ (field (.ref z) 3 >>= _) _ _ _
  refine wpAny_bind (wpAny_field hz rfl (x := .ref TI) rfl ?_)
  refine wpAny_bind (wpAny_seqItems hTI rfl ?_)
  show wpAny _ _ (Builtin.SmallTypes.ownedTupleIsFree (.ref z) >>= _) _ _ _
  refine wpAny_bind ?_
  unfold Builtin.SmallTypes.ownedTupleIsFree
  refine wpAny_bind (wpAny_field hz rfl (x := .none) rfl (wpAny_pure ?_))
  simp only [if_true]
  refine wpAny_bind (wpAny_rule ?_)
  refine wpAny_bind (wpAny_field hz rfl (x := .ref TO) rfl ?_)
  refine wpAny_bind (wpAny_setField_rec hz (by simp) fun h₁ hz₁ hs₁ => ?_)
  replace hz₁ : IsZip h₁ z TI TO .ellipsis := hz₁
  refine wpAny_bind ?_
  simp only [List.map_cons, List.zipIdx_cons, List.forIn_cons]
  refine wpAny_bind (wpAny_bind (wpAny_onRaise ?_))
  show wpAny _ _ (Builtin.SmallTypes.nextOf (.ref a) >>= _) _ _ _
  refine wpAny_bind (RZ.nextOf_tuple_end hh (hit.extBut hs₁.extBut hza) (htp.extBut hs₁.extBut hzl) hx fun h₂ e hs₂ he => ?_)
  obtain ⟨oe, hoe, hce⟩ := he
  have hz₂ : IsZip h₂ z TI TO .ellipsis := hs₂ _ _ hza.symm hz₁
  have hez : e ≠ z := fun x => by subst x; rw [hz₂] at hoe; cases hoe; simp at hce
  exact wpAny_setField_rec hz₂ (by simp) fun h₃ _ hs₃ => hE h₃ e (fun c o c1 c3 x => hs₃.extBut _ _ c1 (hs₂ _ _ c3 (hs₁.extBut _ _ c1 x))) ⟨oe, hs₃.extBut _ _ hez hoe, hce⟩
theorem pyNext_zipN_item {z TI TO : Addr} {is ls : List Addr} {X : List (Array Value)} {j : Nat} {Q : Option Value → Shared → Prop} (D : ApN z TI TO is ls) (hne : is ≠ []) (hl : ls.length = is.length) (hX : X.length = is.length) (hsz : is.length ≤ sizeLine)
    (hz : IsZip s.heap z TI TO .none) (hTI : IsTupN s.heap TI (is.map Value.ref).toArray) (hTO : ∃ vs : Array Value, IsTupN s.heap TO vs ∧ vs.size = is.length)
    (hit : ∀ (k : Nat) (a l : Addr), is[k]? = some a → ls[k]? = some l → s.heap.IsTupleIter a l j) (htp : ∀ (k : Nat) (l : Addr) (x : Array Value), ls[k]? = some l → X[k]? = some x → s.heap.IsTuple l x)
    (hx : ∀ (k : Nat) (x : Array Value), X[k]? = some x → ∃ v, x[j]? = some v)
    (hQ : ∀ (h' : Heap) (ws : Array Value), IsZip h' z TI TO (rawInt s.heap.objs.size) → IsTupN h' TO ws → (∀ (k : Nat) (a l : Addr), is[k]? = some a → ls[k]? = some l → h'.IsTupleIter a l (j + 1)) → IsTupN h' s.heap.objs.size ws → ws.size = is.length → (∀ (k : Nat) (x : Array Value) (v : Value), X[k]? = some x → x[j]? = some v → ws[k]? = some v) → h'.objs.size = s.heap.objs.size + 1 →
      (∀ c o, c ≠ z → c ≠ TO → c ∉ is → s.heap.get? c = some o → h'.get? c = some o) → Q (some (.ref s.heap.objs.size)) { s with heap := h' }) :
    wpAny (model prog w) A (pyNext (.ref z)) Q E s := by
  have hT : s.TypeIs (.ref z) "zip" := ⟨_, hz, rfl⟩
  unfold pyNext
  exact wpAny_bind (wpAny_attempt (wpAny_callSpecial?_slot (name := Str.ofString "__next__") hT F.slot_zip_next
    (wpAny_call_entry F.slot_zip_next hT F.entry_zip_next
      (zipN_item D hne hl hX hsz hz hTI hTO hit htp hx fun h' ws a1 a2 a3 a4 a5 a6 a7 a8 => wpAny_pure (hQ h' ws a1 a2 a3 a4 a5 a6 a7 a8)) (F.args_zip_next_1 _))))
theorem pyNext_zipN_end {z TI TO a l : Addr} {r : List Addr} {j : Nat} {x : Array Value} {Q : Option Value → Shared → Prop} (hh : A.handled = none) (hza : a ≠ z) (hzl : l ≠ z) (hTOz : TO ≠ z)
    (hz : IsZip s.heap z TI TO .none) (hTI : IsTupN s.heap TI ((a :: r).map Value.ref).toArray) (hit : s.heap.IsTupleIter a l j) (htp : s.heap.IsTuple l x) (hx : x[j]? = none)
    (hQ : ∀ h', (∀ c o, c ≠ z → c ≠ a → s.heap.get? c = some o → h'.get? c = some o) → Q none { s with heap := h' }) : wpAny (model prog w) A (pyNext (.ref z)) Q E s := by
  have hT : s.TypeIs (.ref z) "zip" := ⟨_, hz, rfl⟩
  unfold pyNext
  refine wpAny_bind (wpAny_attempt (wpAny_callSpecial?_slot (name := Str.ofString "__next__") hT F.slot_zip_next
    (wpAny_call_entry F.slot_zip_next hT F.entry_zip_next (zipN_end (vs0 := #[]) hh hza hzl hTOz hz hTI hit htp hx fun h' e hk he => ?_) (F.args_zip_next_1 _))))
  obtain ⟨o, ho, hc⟩ := he
  refine wpAny_bind (wpAny_isInstance (T := "StopIteration") (b := true) ⟨o, ho, hc⟩ isSubtype_stop ?_)
  exact wpAny_pure (hQ _ hk)
end
end PySem

end

section
set_option Elab.async false
set_option linter.all false
set_option maxRecDepth 100000
set_option maxHeartbeats 2000000
/-! zip of any number of tuples: it is made -/
namespace PySem
open Sem (wp)
section
variable {prog : Program} {w : World} {A : Around} {E : Value → Shared → Prop} {s : Shared}
/-- the heap with so many new iterators -/
def itersH (h : Heap) : List Addr → Heap
  | [] => h
  | l :: ls => itersH (h.push { cls := .type "tuple_iterator", data := .fields #[.ref l, .int 0 0] }) ls
def itersV (n : Nat) : List Addr → List Value
  | [] => []
  | _ :: ls => .ref n :: itersV (n + 1) ls
theorem wpAny_iterAll {ls : List Addr} {Q : List Value → Shared → Prop} (hL : ∀ l ∈ ls, ∃ x, s.heap.IsTuple l x) (hQ : Q (itersV s.heap.objs.size ls) { s with heap := itersH s.heap ls }) :
    wpAny (model prog w) A (Builtin.SmallTypes.iterAll (ls.map Value.ref)) Q E s := by
  unfold Builtin.SmallTypes.iterAll
  refine wpAny_bind ?_
  have key : ∀ (ls : List Addr) (acc : Array Value) (s : Shared) (P : Array Value → Shared → Prop), (∀ l ∈ ls, ∃ x, s.heap.IsTuple l x) → P (acc ++ (itersV s.heap.objs.size ls).toArray) { s with heap := itersH s.heap ls } →
      wpAny (model prog w) A (forIn (ls.map Value.ref) acc fun x its => do
        let v ← holding its.toList (pyIter x)
        pure (ForInStep.yield (its.push v))) P E s := by
    intro ls
    induction ls with
    | nil =>
      intro acc s P _ h
      rw [List.map_nil, List.forIn_nil]
      have e : acc ++ (itersV s.heap.objs.size []).toArray = acc := by unfold itersV; simp
      rw [e] at h
      exact wpAny_pure h
    | cons l ls ih =>
      intro acc s P hL h
      rw [List.map_cons, List.forIn_cons]
      obtain ⟨x, hx⟩ := hL l List.mem_cons_self
      refine wpAny_bind (wpAny_bind (wpAny_holding (wpAny_pyIter_tuple hx (wpAny_pure ?_))))
      refine ih _ _ P (fun m hm => ?_) ?_
      · obtain ⟨y, hy⟩ := hL m (List.mem_cons_of_mem _ hm)
        exact ⟨y, Heap.IsTuple.push hy _⟩
      · have e : acc.push (Value.ref s.heap.objs.size) ++ (itersV (s.heap.push { cls := .type "tuple_iterator", data := .fields #[.ref l, .int 0 0] }).objs.size ls).toArray = acc ++ (itersV s.heap.objs.size (l :: ls)).toArray := by
          rw [Heap.size_push]
          show _ = acc ++ (Value.ref s.heap.objs.size :: itersV (s.heap.objs.size + 1) ls).toArray
          simp
        rw [e]
        exact h
  refine key ls #[] s _ hL ?_
  refine wpAny_pure ?_
  have e : (#[] ++ (itersV s.heap.objs.size ls).toArray).toList = itersV s.heap.objs.size ls := by simp
  rw [e]
  exact hQ
end
end PySem
namespace PySem
open Sem (wp)
theorem typeCall_zip_n (us : List Value) : checkTypeCall "zip" ⟨us, []⟩ = pure () := by kernel_rfl
theorem args_init_n (obj : Value) (us : List Value) : argsOk "object.__init__" ⟨obj :: us, []⟩ := by unfold argsOk; kernel_rfl
theorem newCall_zip_n : ∀ (us : List Value), us.length ≤ 12 → checkBuiltinCall "zip.__new__" ⟨.type "zip" :: us, []⟩ = pure ()
  | [], _ => by kernel_rfl
  | [_], _ => by kernel_rfl
  | [_, _], _ => by kernel_rfl
  | [_, _, _], _ => by kernel_rfl
  | [_, _, _, _], _ => by kernel_rfl
  | [_, _, _, _, _], _ => by kernel_rfl
  | [_, _, _, _, _, _], _ => by kernel_rfl
  | [_, _, _, _, _, _, _], _ => by kernel_rfl
  | [_, _, _, _, _, _, _, _], _ => by kernel_rfl
  | [_, _, _, _, _, _, _, _, _], _ => by kernel_rfl
  | [_, _, _, _, _, _, _, _, _, _], _ => by kernel_rfl
  | [_, _, _, _, _, _, _, _, _, _, _], _ => by kernel_rfl
  | [_, _, _, _, _, _, _, _, _, _, _, _], _ => by kernel_rfl
  | _ :: _ :: _ :: _ :: _ :: _ :: _ :: _ :: _ :: _ :: _ :: _ :: _ :: _, h => absurd h (by simp)
theorem itersV_len : ∀ (ls : List Addr) (n : Nat), (itersV n ls).length = ls.length
  | [], _ => rfl
  | l :: ls, n => by show (itersV (n + 1) ls).length + 1 = ls.length + 1; rw [itersV_len ls]
abbrev zipNH (h : Heap) (ls : List Addr) : Heap := ((itersH h ls).push { cls := .type "tuple", data := .seq (itersV h.objs.size ls).toArray }).push { cls := .type "tuple", data := .seq ((itersV h.objs.size ls).map fun _ => Value.none).toArray }
abbrev zipNZ (h : Heap) (ls : List Addr) : Heap := (zipNH h ls).push { cls := .type "zip", data := .fields #[.none, .bool false, .bool false, .ref (itersH h ls).objs.size, .ref ((itersH h ls).push { cls := .type "tuple", data := .seq (itersV h.objs.size ls).toArray }).objs.size] }
theorem meets_zip_newN (ls : List Addr) (hsz : ls.length ≤ 12) :
    Meets (Builtin.«zip.__new__» ⟨.type "zip" :: ls.map Value.ref, []⟩) (fun _ R s => (∀ l ∈ ls, ∃ x, s.heap.IsTuple l x) ∧
      R (.ok (.ret (.ref (zipNH s.heap ls).objs.size))) { s with heap := zipNZ s.heap ls }) :=
  .of_wp fun prog w A R s h => by
    obtain ⟨hp, g, d, tk, os⟩ := s; obtain ⟨h1, h⟩ := h
    have hsub := sub_zip
    have q1 : ∀ {A' : Around} {E : Value → Shared → Prop} {Q : List Value → Shared → Prop}, Q (itersV hp.objs.size ls) ⟨itersH hp ls, g, d, tk, os⟩ → wpAny (model prog w) A' (Builtin.SmallTypes.iterAll (ls.map Value.ref)) Q E ⟨hp, g, d, tk, os⟩ :=
      fun q => wpAny_iterAll (s := ⟨hp, g, d, tk, os⟩) h1 q
    wp_walk using q1
    have l1 : ¬ (itersV hp.objs.size ls).toArray.size > sizeLine := by rw [List.size_toArray, itersV_len]; unfold sizeLine; omega
    have l2 : ¬ ((itersV hp.objs.size ls).map fun _ => Value.none).toArray.size > sizeLine := by rw [List.size_toArray, List.length_map, itersV_len]; unfold sizeLine; omega
    rw [if_neg l1]
    wp_walk using q1
    rw [if_neg l2]
    wp_walk using q1
    exact ⟨_, rfl, h⟩
end PySem

end

section
set_option Elab.async false
set_option linter.all false
set_option maxRecDepth 100000
set_option maxHeartbeats 2000000
/-! zip of any number of tuples: the next while the tuple handed out last is kept by another -/
namespace PySem
open Sem (wp)
section
variable {prog : Program} {w : World} {A : Around} {E : Value → Shared → Prop} {s : Shared}
theorem wpAny_forIn_st {M : Model} {A : Around} {α β : Type} {B : α → β → Sem (ForInStep β)} {Q : β → Shared → Prop} {E : Value → Shared → Prop} (I : Nat → β → Shared → Prop) : ∀ (L : List α) (i : Nat) (b : β) (s : Shared), (∀ k p b s, L[k]? = some p → I (i + k) b s → wpAny M A (B p b) (fun r s' => ∃ b', r = .yield b' ∧ I (i + k + 1) b' s') E s) → I i b s → (∀ b s', I (i + L.length) b s' → Q b s') →
    wpAny M A (forIn L b B) Q E s
  | [], i, b, s, _, h0, hq => by
    rw [List.forIn_nil]
    exact wpAny_pure (hq b s h0)
  | p :: L, i, b, s, hs, h0, hq => by
    rw [List.forIn_cons]
    refine wpAny_bind (L2.thn (hs 0 p b s rfl h0) fun r s' ⟨b', e, h1⟩ => ?_)
    subst e
    refine wpAny_forIn_st I L (i + 1) b' s' (fun k q b s hk h => ?_) h1 fun b s'' h => hq b s'' ?_
    · have e : i + 1 + k = i + (k + 1) := by omega
      rw [e] at h ⊢
      exact hs (k + 1) q b s hk h
    · have e : i + 1 + L.length = i + (L.length + 1) := by omega
      rw [e] at h
      exact h
structure ZhAt (z TI TO T : Addr) (is ls : List Addr) (X : List (Array Value)) (j : Nat) (h0 : Heap) (i : Nat) (acc : Array Value) (h : Heap) : Prop where
  hz : IsZipHeld h z TI TO T true
  ac : acc.size = i
  av : ∀ (k : Nat) (x : Array Value) (v : Value), k < i → X[k]? = some x → x[j]? = some v → acc[k]? = some v
  it : ∀ (k : Nat) (a l : Addr), is[k]? = some a → ls[k]? = some l → h.IsTupleIter a l (if k < i then j + 1 else j)
  tp : ∀ (k : Nat) (l : Addr) (x : Array Value), ls[k]? = some l → X[k]? = some x → h.IsTuple l x
  sz : h.objs.size = h0.objs.size
  kp : ∀ c o, c ≠ z → c ∉ is → h0.get? c = some o → h.get? c = some o
theorem ZhAt.step {z TI TO T : Addr} {is ls : List Addr} {X : List (Array Value)} {j i : Nat} {h0 h h2 : Heap} {a l : Addr} {x acc : Array Value} {v : Value} (D : ApN z TI TO is ls) (S : ZhAt z TI TO T is ls X j h0 i acc h) (ha : is[i]? = some a) (hl : ls[i]? = some l) (hX : X[i]? = some x) (hv : x[j]? = some v)
    (hit : h2.IsTupleIter a l (j + 1)) (s2 : Heap.SameBut a h h2) : ZhAt z TI TO T is ls X j h0 (i + 1) (acc.push v) h2 := by
  have ai : a ∈ is := List.mem_of_getElem? ha
  have hac := S.ac
  refine ⟨?_, by rw [Array.size_push, hac], fun k y u hk hy hu => ?_, fun k b m hb hm => ?_, fun k m y hm hy => ?_, ?_, fun c o c1 c3 e => ?_⟩
  · exact s2.extBut _ _ (D.iz a ai).symm S.hz
  · by_cases e : k = i
    · subst e
      rw [hX] at hy
      cases hy
      rw [hv] at hu
      cases hu
      rw [← hac, Array.getElem?_push_size]
    · have hk' : k < acc.size := by omega
      rw [Array.getElem?_push_lt hk']
      rw [← Array.getElem?_eq_getElem hk']
      exact S.av k y u (by omega) hy hu
  · by_cases e : k = i
    · subst e
      rw [ha] at hb; cases hb
      rw [hl] at hm; cases hm
      rw [if_pos (Nat.lt_succ_self k)]
      exact hit
    · have hne : b ≠ a := fun z => e (nodup_get D.nd hb (by rw [z]; exact ha))
      have := S.it k b m hb hm
      have ec : (if k < i + 1 then j + 1 else j) = if k < i then j + 1 else j := by
        by_cases h1 : k < i
        · rw [if_pos h1, if_pos (by omega)]
        · rw [if_neg h1, if_neg (by omega)]
      rw [ec]
      exact this.extBut s2.extBut hne
  · exact (S.tp k m y hm hy).extBut s2.extBut (D.li m (List.mem_of_getElem? hm) a ai)
  · rw [s2.1, S.sz]
  · exact s2.extBut _ _ (fun q => c3 (by rw [q]; exact ai)) (S.kp c o c1 c3 e)
theorem refs_at {is : List Addr} {k : Nat} {p : Value} (h : (is.map Value.ref).toArray.toList[k]? = some p) : ∃ a, is[k]? = some a ∧ p = .ref a := by
  simp only [List.getElem?_map] at h
  cases e : is[k]? with
  | none => rw [e] at h; simp at h
  | some a => rw [e] at h; simp at h; exact ⟨a, rfl, h.symm⟩
theorem zipN_item_held {z TI TO T : Addr} {f : Bool} {oT : Obj} {is ls : List Addr} {X : List (Array Value)} {j : Nat} {Q : Value → Shared → Prop} (D : ApN z TI TO is ls) (hne : is ≠ []) (hl : ls.length = is.length) (hX : X.length = is.length) (hsz : is.length ≤ sizeLine)
    (hz : IsZipHeld s.heap z TI TO T f) (hT : s.heap.get? T = some oT) (hTI : IsTupN s.heap TI (is.map Value.ref).toArray)
    (hit : ∀ (k : Nat) (a l : Addr), is[k]? = some a → ls[k]? = some l → s.heap.IsTupleIter a l j) (htp : ∀ (k : Nat) (l : Addr) (x : Array Value), ls[k]? = some l → X[k]? = some x → s.heap.IsTuple l x)
    (hx : ∀ (k : Nat) (x : Array Value), X[k]? = some x → ∃ v, x[j]? = some v)
    (hQ : ∀ (h' : Heap) (ws : Array Value), IsZipHeld h' z TI TO T true → (∀ (k : Nat) (a l : Addr), is[k]? = some a → ls[k]? = some l → h'.IsTupleIter a l (j + 1)) → IsTupN h' s.heap.objs.size ws → ws.size = is.length → (∀ (k : Nat) (x : Array Value) (v : Value), X[k]? = some x → x[j]? = some v → ws[k]? = some v) → h'.objs.size = s.heap.objs.size + 1 →
      (∀ c o, c ≠ z → c ∉ is → s.heap.get? c = some o → h'.get? c = some o) → Q (.ref s.heap.objs.size) { s with heap := h' }) :
    wpAny (model prog w) A (Builtin.«zip.__next__» ⟨[.ref z], []⟩) (fun fin s' => ∃ v, fin = .done (.ret v) ∧ Q v s') E s := by
  have hemp : (is.map Value.ref).toArray.isEmpty = false := by
    cases is with
    | nil => exact absurd rfl hne
    | cons a r => rfl
  show wpAny _ _ (field (.ref z) 2 >>= _) _ _ _
  refine wpAny_bind (wpAny_field hz rfl (x := .bool false) rfl ?_)
  show wpAny _ _ (field (.ref z) 3 >>= _) _ _ _
  refine wpAny_bind (wpAny_field hz rfl (x := .ref TI) rfl ?_)
  refine wpAny_bind (wpAny_seqItems hTI rfl ?_)
  simp only [hemp]
  show wpAny _ _ (Builtin.SmallTypes.ownedTupleIsFree (.ref z) >>= _) _ _ _
  refine wpAny_bind (wpAny_tupleHeld_zip hz hT fun h₁ hz₁ hs₁ => ?_)
  simp only [Bool.false_eq_true, if_false]
  refine wpAny_bind ?_
  rw [← Array.forIn_toList]
  have start : ZhAt z TI TO T is ls X j s.heap 0 #[] h₁ := ⟨hz₁, rfl, fun k _ _ hk _ _ => by omega, fun k a l ha hl' => by
    rw [if_neg (Nat.not_lt_zero k)]
    exact (hit k a l ha hl').extBut hs₁.extBut (D.iz a (List.mem_of_getElem? ha)), fun k l x h1 h2 => (htp k l x h1 h2).extBut hs₁.extBut (D.lz l (List.mem_of_getElem? h1)), hs₁.1, fun c o c1 _ e => hs₁.extBut _ _ c1 e⟩
  refine wpAny_forIn_st (fun i b s' => ∃ acc h', b = (none, acc) ∧ s' = { s with heap := h' } ∧ ZhAt z TI TO T is ls X j s.heap i acc h') _ 0 _ _ ?_ ⟨#[], h₁, rfl, rfl, start⟩ ?_
  · rintro k p b s' hp ⟨acc, h, rfl, rfl, S⟩
    rw [Nat.zero_add] at S
    obtain ⟨a, ha, rfl⟩ := refs_at hp
    have hk : k < is.length := (List.getElem?_eq_some_iff.mp ha).1
    obtain ⟨l, hl'⟩ : ∃ l, ls[k]? = some l := ⟨_, List.getElem?_eq_getElem (by omega)⟩
    obtain ⟨x, hx'⟩ : ∃ x, X[k]? = some x := ⟨_, List.getElem?_eq_getElem (by omega)⟩
    obtain ⟨v, hv⟩ := hx k x hx'
    have it0 := S.it k a l ha hl'
    rw [if_neg (Nat.lt_irrefl k)] at it0
    refine wpAny_bind (wpAny_holding ?_)
    show wpAny _ _ (Builtin.SmallTypes.nextOf (.ref a) >>= _) _ _ _
    refine wpAny_bind (RZ.nextOf_tuple_item it0 (S.tp k l x hl' hx') hv fun h2 hit2 hs2 => wpAny_pure ?_)
    refine wpAny_pure ⟨_, rfl, acc.push v, h2, rfl, rfl, ?_⟩
    rw [Nat.zero_add]
    exact S.step D ha hl' hx' hv hit2 hs2
  · rintro b s' ⟨acc, h, rfl, rfl, S⟩
    have elen : 0 + (is.map Value.ref).toArray.toList.length = is.length := by simp
    rw [elen] at S
    dsimp only
    refine wpAny_bind (wpAny_newTuple ?_ (by have := S.ac; simp; omega))
    have ea : acc.toList.toArray = acc := by simp
    rw [ea]
    refine wpAny_pure ⟨_, rfl, ?_⟩
    show Q (.ref h.objs.size) _
    have hp : IsTupN (h.push { cls := .type "tuple", data := .seq acc }) h.objs.size acc := Heap.get?_push_size _ rfl
    have hz4 : (h.push { cls := .type "tuple", data := .seq acc }).objs.size = h.objs.size + 1 := Heap.size_push ..
    rw [S.sz] at hp hz4 ⊢
    refine hQ _ acc (Heap.get?_push_of_some _ S.hz) (fun k a l ha hl' => ?_) hp S.ac (fun k x v h1 h2 => ?_) hz4 fun c o c1 c3 e => Heap.get?_push_of_some _ (S.kp c o c1 c3 e)
    · have := S.it k a l ha hl'
      rw [if_pos (List.getElem?_eq_some_iff.mp ha).1] at this
      exact this.at fun o e => Heap.get?_push_of_some _ e
    · exact S.av k x v (by rw [← hX]; exact (List.getElem?_eq_some_iff.mp h1).1) h1 h2
end
end PySem

end

section
set_option Elab.async false
set_option linter.all false
set_option maxRecDepth 100000
set_option maxHeartbeats 2000000
namespace PySem
open Sem (wp)
theorem itersH_size : ∀ (ls : List Addr) (h : Heap), (itersH h ls).objs.size = h.objs.size + ls.length
  | [], h => rfl
  | l :: ls, h => by
    show (itersH (h.push _) ls).objs.size = _
    rw [itersH_size ls, Heap.size_push, List.length_cons]
    omega
theorem itersH_keep : ∀ (ls : List Addr) (h : Heap) {c : Addr} {o : Obj}, h.get? c = some o → (itersH h ls).get? c = some o
  | [], h, c, o, e => e
  | l :: ls, h, c, o, e => itersH_keep ls (h.push _) (Heap.get?_push_of_some _ e)
theorem itersH_at : ∀ (ls : List Addr) (h : Heap) {k : Nat} {l : Addr}, ls[k]? = some l → (itersH h ls).IsTupleIter (h.objs.size + k) l 0
  | [], h, k, l, e => by simp at e
  | m :: ls, h, 0, l, e => by
    simp at e
    subst e
    show (itersH (h.push _) ls).IsTupleIter (h.objs.size + 0) m 0
    exact ⟨_, itersH_keep ls _ (Heap.get?_push_size _ rfl), rfl, rfl⟩
  | m :: ls, h, k + 1, l, e => by
    have e' : ls[k]? = some l := by simpa using e
    have := itersH_at ls (h.push { cls := .type "tuple_iterator", data := .fields #[.ref m, .int 0 0] }) e'
    rw [Heap.size_push] at this
    have e2 : h.objs.size + 1 + k = h.objs.size + (k + 1) := by omega
    rw [e2] at this
    exact this
theorem itersV_eq : ∀ (ls : List Addr) (n : Nat), itersV n ls = (List.range' n ls.length).map Value.ref
  | [], n => rfl
  | l :: ls, n => by
    show Value.ref n :: itersV (n + 1) ls = _
    rw [itersV_eq ls, List.length_cons, List.range'_succ, List.map_cons]
section
variable {prog : Program} {w : World} {A : Around} {E : Value → Shared → Prop} {s : Shared}
theorem call_zipN {ls : List Addr} {Q : Value → Shared → Prop} (hL : ∀ l ∈ ls, ∃ x, s.heap.IsTuple l x) (hsz : ls.length ≤ 12)
    (h : ∀ h', IsZip h' (s.heap.objs.size + ls.length + 2) (s.heap.objs.size + ls.length) (s.heap.objs.size + ls.length + 1) .none → IsTupN h' (s.heap.objs.size + ls.length) ((List.range' s.heap.objs.size ls.length).map Value.ref).toArray →
      (∃ vs : Array Value, IsTupN h' (s.heap.objs.size + ls.length + 1) vs ∧ vs.size = ls.length) → (∀ (k : Nat) (l : Addr), ls[k]? = some l → h'.IsTupleIter (s.heap.objs.size + k) l 0) → h'.objs.size = s.heap.objs.size + ls.length + 3 →
      (∀ c o, s.heap.get? c = some o → h'.get? c = some o) → Q (.ref (s.heap.objs.size + ls.length + 2)) { s with heap := h' }) :
    wpAny (model prog w) A (call (.type "zip") (ls.map Value.ref)) Q E s := by
  refine callType_new F.called_zip (by decide) (typeCall_zip_n _) (newCall_zip_n _ (by rw [List.length_map]; exact hsz)) (fun obj => args_init_n obj _) F.entry_zip_new
    (meets_zip_newN ls hsz) ⟨hL, ?_⟩
  have z1 := itersH_size ls s.heap
  have z2 : ((itersH s.heap ls).push { cls := .type "tuple", data := .seq (itersV s.heap.objs.size ls).toArray }).objs.size = s.heap.objs.size + ls.length + 1 := by rw [Heap.size_push, z1]
  have z3 : (zipNH s.heap ls).objs.size = s.heap.objs.size + ls.length + 2 := by rw [Heap.size_push, z2]
  have z4 : (zipNZ s.heap ls).objs.size = s.heap.objs.size + ls.length + 3 := by rw [Heap.size_push, z3]
  have g5 : (zipNZ s.heap ls).get? (zipNH s.heap ls).objs.size = some _ := Heap.get?_push_size _ rfl
  have g4 : (zipNZ s.heap ls).get? ((itersH s.heap ls).push { cls := .type "tuple", data := .seq (itersV s.heap.objs.size ls).toArray }).objs.size = some _ := Heap.get?_push_of_some _ (Heap.get?_push_size _ rfl)
  have g3 : (zipNZ s.heap ls).get? (itersH s.heap ls).objs.size = some _ := Heap.get?_push_of_some _ (Heap.get?_push_of_some _ (Heap.get?_push_size _ rfl))
  have kp : ∀ {c : Addr} {o : Obj}, (itersH s.heap ls).get? c = some o → (zipNZ s.heap ls).get? c = some o := fun e => Heap.get?_push_of_some _ (Heap.get?_push_of_some _ (Heap.get?_push_of_some _ e))
  show _ ∧ _
  rw [z1, z2, z3] at g5
  rw [z2] at g4
  rw [z1, itersV_eq] at g3
  rw [z3]
  exact ⟨⟨_, g5, rfl⟩, h _ g5 g3 ⟨_, g4, by rw [List.size_toArray, List.length_map, itersV_len]⟩ (fun k l e => (itersH_at ls s.heap e).at fun o e => kp e) z4 fun c o e => kp (itersH_keep ls s.heap e)⟩
end
end PySem

end

section
set_option Elab.async false
set_option linter.all false
set_option maxRecDepth 100000
set_option maxHeartbeats 2000000
namespace PySem
open Sem (wp)
section
variable {prog : Program} {w : World} {A : Around} {E : Value → Shared → Prop} {s : Shared}
theorem zipN_end_held {z TI TO T a l : Addr} {f : Bool} {oT : Obj} {r : List Addr} {j : Nat} {x : Array Value} {Q : Fin → Shared → Prop} (hh : A.handled = none) (hza : a ≠ z) (hzl : l ≠ z)
    (hz : IsZipHeld s.heap z TI TO T f) (hT : s.heap.get? T = some oT) (hTI : IsTupN s.heap TI ((a :: r).map Value.ref).toArray) (hit : s.heap.IsTupleIter a l j) (htp : s.heap.IsTuple l x) (hx : x[j]? = none)
    (hE : ∀ h' e, (∀ c o, c ≠ z → c ≠ a → s.heap.get? c = some o → h'.get? c = some o) → (∃ o, h'.get? e = some o ∧ o.cls = .type "StopIteration") → E (.ref e) { s with heap := h' }) :
    wpAny (model prog w) A (Builtin.«zip.__next__» ⟨[.ref z], []⟩) Q E s := by
  show wpAny _ _ (field (.ref z) 2 >>= _) _ _ _
  refine wpAny_bind (wpAny_field hz rfl (x := .bool false) rfl ?_)
  show wpAny _ _ (field (.ref z) 3 >>= _) _ _ _
  refine wpAny_bind (wpAny_field hz rfl (x := .ref TI) rfl ?_)
  refine wpAny_bind (wpAny_seqItems hTI rfl ?_)
  show wpAny _ _ (Builtin.SmallTypes.ownedTupleIsFree (.ref z) >>= _) _ _ _
  refine wpAny_bind (wpAny_tupleHeld_zip hz hT fun h₁ hz₁ hs₁ => ?_)
  simp only [Bool.false_eq_true, if_false]
  refine wpAny_bind ?_
  rw [← Array.forIn_toList]
  simp only [List.map_cons, List.forIn_cons]
  refine wpAny_bind (wpAny_bind (wpAny_holding ?_))
  show wpAny _ _ (Builtin.SmallTypes.nextOf (.ref a) >>= _) _ _ _
  refine wpAny_bind (RZ.nextOf_tuple_end (s := { s with heap := h₁ }) hh (hit.extBut hs₁.extBut hza) (htp.extBut hs₁.extBut hzl) hx fun h₂ e hs₂ he => ?_)
  exact hE h₂ e (fun c o c1 c2 x => hs₂ _ _ c2 (hs₁.extBut _ _ c1 x)) he
theorem pyNext_zipN_item_held {z TI TO T : Addr} {f : Bool} {oT : Obj} {is ls : List Addr} {X : List (Array Value)} {j : Nat} {Q : Option Value → Shared → Prop} (D : ApN z TI TO is ls) (hne : is ≠ []) (hl : ls.length = is.length) (hX : X.length = is.length) (hsz : is.length ≤ sizeLine)
    (hz : IsZipHeld s.heap z TI TO T f) (hT : s.heap.get? T = some oT) (hTI : IsTupN s.heap TI (is.map Value.ref).toArray)
    (hit : ∀ (k : Nat) (a l : Addr), is[k]? = some a → ls[k]? = some l → s.heap.IsTupleIter a l j) (htp : ∀ (k : Nat) (l : Addr) (x : Array Value), ls[k]? = some l → X[k]? = some x → s.heap.IsTuple l x)
    (hx : ∀ (k : Nat) (x : Array Value), X[k]? = some x → ∃ v, x[j]? = some v)
    (hQ : ∀ (h' : Heap) (ws : Array Value), IsZipHeld h' z TI TO T true → (∀ (k : Nat) (a l : Addr), is[k]? = some a → ls[k]? = some l → h'.IsTupleIter a l (j + 1)) → IsTupN h' s.heap.objs.size ws → ws.size = is.length → (∀ (k : Nat) (x : Array Value) (v : Value), X[k]? = some x → x[j]? = some v → ws[k]? = some v) → h'.objs.size = s.heap.objs.size + 1 →
      (∀ c o, c ≠ z → c ∉ is → s.heap.get? c = some o → h'.get? c = some o) → Q (some (.ref s.heap.objs.size)) { s with heap := h' }) :
    wpAny (model prog w) A (pyNext (.ref z)) Q E s := by
  have hTy : s.TypeIs (.ref z) "zip" := ⟨_, hz, rfl⟩
  unfold pyNext
  exact wpAny_bind (wpAny_attempt (wpAny_callSpecial?_slot (name := Str.ofString "__next__") hTy F.slot_zip_next
    (wpAny_call_entry F.slot_zip_next hTy F.entry_zip_next
      (zipN_item_held D hne hl hX hsz hz hT hTI hit htp hx fun h' ws a1 a3 a4 a5 a6 a7 a8 => wpAny_pure (hQ h' ws a1 a3 a4 a5 a6 a7 a8)) (F.args_zip_next_1 _))))
theorem pyNext_zipN_end_held {z TI TO T a l : Addr} {f : Bool} {oT : Obj} {r : List Addr} {j : Nat} {x : Array Value} {Q : Option Value → Shared → Prop} (hh : A.handled = none) (hza : a ≠ z) (hzl : l ≠ z)
    (hz : IsZipHeld s.heap z TI TO T f) (hT : s.heap.get? T = some oT) (hTI : IsTupN s.heap TI ((a :: r).map Value.ref).toArray) (hit : s.heap.IsTupleIter a l j) (htp : s.heap.IsTuple l x) (hx : x[j]? = none)
    (hQ : ∀ h', (∀ c o, c ≠ z → c ≠ a → s.heap.get? c = some o → h'.get? c = some o) → Q none { s with heap := h' }) : wpAny (model prog w) A (pyNext (.ref z)) Q E s := by
  have hTy : s.TypeIs (.ref z) "zip" := ⟨_, hz, rfl⟩
  unfold pyNext
  refine wpAny_bind (wpAny_attempt (wpAny_callSpecial?_slot (name := Str.ofString "__next__") hTy F.slot_zip_next
    (wpAny_call_entry F.slot_zip_next hTy F.entry_zip_next (zipN_end_held hh hza hzl hz hT hTI hit htp hx fun h' e hk he => ?_) (F.args_zip_next_1 _))))
  obtain ⟨o, ho, hc⟩ := he
  refine wpAny_bind (wpAny_isInstance (T := "StopIteration") (b := true) ⟨o, ho, hc⟩ isSubtype_stop ?_)
  exact wpAny_pure (hQ _ hk)
end
end PySem

end

section
set_option Elab.async false
set_option linter.all false
set_option maxRecDepth 100000
set_option maxHeartbeats 2000000
/-! zip of any number of tuples: the next, whatever became of the tuple handed out last -/
namespace PySem
open Sem (wp)
section
variable {prog : Program} {w : World} {A : Around} {E : Value → Shared → Prop} {s : Shared}
abbrev IsZipG (h : Heap) (z TI TO : Addr) (f0 : Value) (f1 : Bool) : Prop :=
  h.get? z = some { cls := .type "zip", dict := none, data := .fields #[f0, .bool f1, .bool false, .ref TI, .ref TO], slots := #[] }
/-- the kept tuple is free -/
def FreeF (h : Heap) (f0 : Value) : Prop := f0 = .none ∨ ∃ T : Addr, f0 = rawInt T ∧ h.get? T = none
theorem wpAny_zipFree {z TI TO : Addr} {f0 : Value} {f1 : Bool} {Q : Bool → Shared → Prop} (hz : IsZipG s.heap z TI TO f0 f1) (hf : FreeF s.heap f0) (h : Q true s) : wpAny (model prog w) A (Builtin.SmallTypes.ownedTupleIsFree (.ref z)) Q E s := by
  unfold Builtin.SmallTypes.ownedTupleIsFree
  rcases hf with rfl | ⟨T, rfl, hT⟩
  · exact wpAny_bind (wpAny_field hz rfl (x := .none) rfl (wpAny_pure h))
  · refine wpAny_bind (wpAny_field hz rfl (x := rawInt T) rfl ?_)
    show wpAny _ _ (loadIfAlive ((T : Int).toNat) >>= _) _ _ _
    rw [Int.toNat_natCast]
    have ha : ∀ {Q : Option Obj → Shared → Prop}, Q none s → wpAny (model prog w) A (loadIfAlive T) Q E s := fun {Q} hq => by
      have h' : Q (s.heap.get? T) s := by rw [hT]; exact hq
      exact fun _ _ _ => h'
    refine wpAny_bind (ha ?_)
    simp only [Option.isNone_none, if_true]
    exact wpAny_pure h
/-- amid a step: the first i drawn -/
structure ZgAt (f1 : Bool) (z TI TO : Addr) (is ls : List Addr) (X : List (Array Value)) (j : Nat) (h0 : Heap) (i : Nat) (h : Heap) : Prop where
  hz : IsZipG h z TI TO .ellipsis f1
  to : ∃ vs : Array Value, IsTupN h TO vs ∧ vs.size = is.length ∧ ∀ (k : Nat) (x : Array Value) (v : Value), k < i → X[k]? = some x → x[j]? = some v → vs[k]? = some v
  it : ∀ (k : Nat) (a l : Addr), is[k]? = some a → ls[k]? = some l → h.IsTupleIter a l (if k < i then j + 1 else j)
  tp : ∀ (k : Nat) (l : Addr) (x : Array Value), ls[k]? = some l → X[k]? = some x → h.IsTuple l x
  sz : h.objs.size = h0.objs.size
  kp : ∀ c o, c ≠ z → c ≠ TO → c ∉ is → h0.get? c = some o → h.get? c = some o
/-- one draw -/
theorem ZgAt.step {f1 : Bool} {z TI TO : Addr} {is ls : List Addr} {X : List (Array Value)} {j i : Nat} {h0 h h2 h3 : Heap} {a l : Addr} {x vs : Array Value} {v : Value} (D : ApN z TI TO is ls) (S : ZgAt f1 z TI TO is ls X j h0 i h) (ha : is[i]? = some a) (hl : ls[i]? = some l) (hX : X[i]? = some x) (hv : x[j]? = some v)
    (hit : h2.IsTupleIter a l (j + 1)) (s2 : Heap.SameBut a h h2) (hT : IsTupN h2 TO vs) (hvs : vs.size = is.length) (hold : ∀ (k : Nat) (x : Array Value) (v : Value), k < i → X[k]? = some x → x[j]? = some v → vs[k]? = some v) (hT3 : IsTupN h3 TO (vs.setIfInBounds i v)) (s3 : Heap.SameBut TO h2 h3) : ZgAt f1 z TI TO is ls X j h0 (i + 1) h3 := by
  have ai : a ∈ is := List.mem_of_getElem? ha
  have hi : i < is.length := (List.getElem?_eq_some_iff.mp ha).1
  refine ⟨?_, ⟨_, hT3, by rw [Array.size_setIfInBounds]; exact hvs, fun k y u hk hy hu => ?_⟩, fun k b m hb hm => ?_, fun k m y hm hy => ?_, ?_, fun c o c1 c2 c3 e => ?_⟩
  · exact s3.extBut _ _ D.TOz.symm (s2.extBut _ _ (D.iz a ai).symm S.hz)
  · by_cases e : k = i
    · subst e
      rw [hX] at hy
      cases hy
      rw [hv] at hu
      cases hu
      rw [Array.getElem?_setIfInBounds_self_of_lt (by omega)]
    · rw [Array.getElem?_setIfInBounds_ne (Ne.symm e)]
      exact hold k y u (by omega) hy hu
  · have bi : b ∈ is := List.mem_of_getElem? hb
    by_cases e : k = i
    · subst e
      rw [ha] at hb; cases hb
      rw [hl] at hm; cases hm
      rw [if_pos (Nat.lt_succ_self k)]
      exact hit.extBut s3.extBut (D.iTO a ai).symm
    · have hne : b ≠ a := fun z => e (nodup_get D.nd hb (by rw [z]; exact ha))
      have := S.it k b m hb hm
      have ec : (if k < i + 1 then j + 1 else j) = if k < i then j + 1 else j := by
        by_cases h1 : k < i
        · rw [if_pos h1, if_pos (by omega)]
        · rw [if_neg h1, if_neg (by omega)]
      rw [ec]
      exact (this.extBut s2.extBut hne).extBut s3.extBut (D.iTO b bi).symm
  · have ml : m ∈ ls := List.mem_of_getElem? hm
    exact ((S.tp k m y hm hy).extBut s2.extBut (D.li m ml a ai)).extBut s3.extBut (D.lTO m ml)
  · rw [s3.1, s2.1, S.sz]
  · exact s3.extBut _ _ c2 (s2.extBut _ _ (fun q => c3 (by rw [q]; exact ai)) (S.kp c o c1 c2 c3 e))

theorem zipG_item {f0 : Value} {f1 : Bool} {z TI TO : Addr} {is ls : List Addr} {X : List (Array Value)} {j : Nat} {Q : Value → Shared → Prop} (D : ApN z TI TO is ls) (hne : is ≠ []) (hl : ls.length = is.length) (hX : X.length = is.length) (hsz : is.length ≤ sizeLine)
    (hz : IsZipG s.heap z TI TO f0 f1) (hf : FreeF s.heap f0) (hTI : IsTupN s.heap TI (is.map Value.ref).toArray) (hTO : ∃ vs : Array Value, IsTupN s.heap TO vs ∧ vs.size = is.length)
    (hit : ∀ (k : Nat) (a l : Addr), is[k]? = some a → ls[k]? = some l → s.heap.IsTupleIter a l j) (htp : ∀ (k : Nat) (l : Addr) (x : Array Value), ls[k]? = some l → X[k]? = some x → s.heap.IsTuple l x)
    (hx : ∀ (k : Nat) (x : Array Value), X[k]? = some x → ∃ v, x[j]? = some v)
    (hQ : ∀ (h' : Heap) (ws : Array Value), IsZip h' z TI TO (rawInt s.heap.objs.size) → IsTupN h' TO ws → (∀ (k : Nat) (a l : Addr), is[k]? = some a → ls[k]? = some l → h'.IsTupleIter a l (j + 1)) → IsTupN h' s.heap.objs.size ws → ws.size = is.length → (∀ (k : Nat) (x : Array Value) (v : Value), X[k]? = some x → x[j]? = some v → ws[k]? = some v) → h'.objs.size = s.heap.objs.size + 1 →
      (∀ c o, c ≠ z → c ≠ TO → c ∉ is → s.heap.get? c = some o → h'.get? c = some o) → Q (.ref s.heap.objs.size) { s with heap := h' }) :
    wpAny (model prog w) A (Builtin.«zip.__next__» ⟨[.ref z], []⟩) (fun fin s' => ∃ v, fin = .done (.ret v) ∧ Q v s') E s := by
  obtain ⟨vs0, hT0, hv0⟩ := hTO
  have hemp : (is.map Value.ref).toArray.isEmpty = false := by
    cases is with
    | nil => exact absurd rfl hne
    | cons a r => rfl
  show wpAny _ _ (field (.ref z) 2 >>= _) _ _ _
  refine wpAny_bind (wpAny_field hz rfl (x := .bool false) rfl ?_)
  show wpAny _ _ (field (.ref z) 3 >>= _) _ _ _
  refine wpAny_bind (wpAny_field hz rfl (x := .ref TI) rfl ?_)
  refine wpAny_bind (wpAny_seqItems hTI rfl ?_)
  simp only [hemp]
  show wpAny _ _ (Builtin.SmallTypes.ownedTupleIsFree (.ref z) >>= _) _ _ _
  refine wpAny_bind (wpAny_zipFree hz hf ?_)
  simp only [if_true]
  refine wpAny_bind (wpAny_rule ?_)
  refine wpAny_bind (wpAny_field hz rfl (x := .ref TO) rfl ?_)
  refine wpAny_bind (wpAny_setField_rec hz (by simp) fun h₁ hz₁ hs₁ => ?_)
  replace hz₁ : IsZipG h₁ z TI TO .ellipsis f1 := hz₁
  refine wpAny_bind ?_
  have start : ZgAt f1 z TI TO is ls X j s.heap 0 h₁ := ⟨hz₁, ⟨vs0, hs₁.extBut _ _ D.TOz hT0, hv0, fun k _ _ hk _ _ => by omega⟩, fun k a l ha hl' => by
    rw [if_neg (Nat.not_lt_zero k)]
    exact (hit k a l ha hl').extBut hs₁.extBut (D.iz a (List.mem_of_getElem? ha)), fun k l x h1 h2 => (htp k l x h1 h2).extBut hs₁.extBut (D.lz l (List.mem_of_getElem? h1)), hs₁.1, fun c o c1 _ _ e => hs₁.extBut _ _ c1 e⟩
  refine wpAny_forIn_on (fun i s' => ∃ h', s' = { s with heap := h' } ∧ ZgAt f1 z TI TO is ls X j s.heap i h') _ 0 _ ?_ ⟨h₁, rfl, start⟩ ?_
  · rintro k p s' hp ⟨h, rfl, S⟩
    rw [Nat.zero_add] at S
    obtain ⟨a, ha, rfl⟩ := zipIdx_at hp
    have hk : k < is.length := (List.getElem?_eq_some_iff.mp ha).1
    obtain ⟨l, hl'⟩ : ∃ l, ls[k]? = some l := ⟨_, List.getElem?_eq_getElem (by omega)⟩
    obtain ⟨x, hx'⟩ : ∃ x, X[k]? = some x := ⟨_, List.getElem?_eq_getElem (by omega)⟩
    obtain ⟨v, hv⟩ := hx k x hx'
    obtain ⟨vs, hT, hvs, hold⟩ := S.to
    have it0 := S.it k a l ha hl'
    rw [if_neg (Nat.lt_irrefl k)] at it0
    have ai : a ∈ is := List.mem_of_getElem? ha
    refine wpAny_bind (wpAny_onRaise ?_)
    show wpAny _ _ (Builtin.SmallTypes.nextOf (.ref a) >>= _) _ _ _
    refine wpAny_bind (RZ.nextOf_tuple_item it0 (S.tp k l x hl' hx') hv fun h2 hit2 hs2 => wpAny_pure ?_)
    have hT2 : IsTupN h2 TO vs := hs2.extBut _ _ (D.iTO a ai) hT
    refine wpAny_bind (wpAny_seqItems hT2 rfl ?_)
    refine wpAny_bind (updateSeq_tup hT2 (by omega) fun h3 hT3 hs3 => ?_)
    refine wpAny_bind (wpAny_letGo (wpAny_pure ⟨rfl, h3, rfl, ?_⟩))
    rw [Nat.zero_add]
    exact S.step D ha hl' hx' hv hit2 hs2 hT2 hvs hold hT3 hs3
  · rintro s' ⟨h, rfl, S⟩
    have elen : 0 + (is.map Value.ref).toArray.toList.zipIdx.length = is.length := by simp
    rw [elen] at S
    obtain ⟨vs, hT, hvs, hold⟩ := S.to
    dsimp only
    refine wpAny_bind (wpAny_seqItems hT rfl ?_)
    refine wpAny_bind (wpAny_newTuple ?_ (by simp; omega))
    have hzlt : z < h.objs.size := Heap.lt_size S.hz
    show wpAny _ _ (Builtin.SmallTypes.ownedTupleHandOut (.ref z) (.ref h.objs.size) >>= _) _ _ _
    refine wpAny_bind ?_
    unfold Builtin.SmallTypes.ownedTupleHandOut
    have ea : vs.toList.toArray = vs := by simp
    rw [ea]
    have hz₆ : IsZipG (h.push { cls := .type "tuple", data := .seq vs }) z TI TO .ellipsis f1 := Heap.get?_push_of_some _ S.hz
    refine wpAny_bind (wpAny_setField_rec hz₆ (by simp) fun h₇ hz₇ hs₇ => ?_)
    replace hz₇ : IsZipG h₇ z TI TO (rawInt h.objs.size) f1 := hz₇
    refine wpAny_setField_rec hz₇ (by simp) fun h₈ hz₈ hs₈ => ?_
    replace hz₈ : IsZip h₈ z TI TO (rawInt h.objs.size) := hz₈
    have up : ∀ c o, c ≠ z → h.get? c = some o → h₈.get? c = some o := fun c o c1 e => hs₈.extBut _ _ c1 (hs₇.extBut _ _ c1 (Heap.get?_push_of_some _ e))
    have hT₈ : IsTupN h₈ h.objs.size vs := hs₈.extBut _ _ (Nat.ne_of_gt hzlt) (hs₇.extBut _ _ (Nat.ne_of_gt hzlt) (Heap.get?_push_size _ rfl))
    have hz8 : h₈.objs.size = h.objs.size + 1 := by rw [hs₈.1, hs₇.1, Heap.size_push]
    rw [S.sz] at hz₈ hT₈ hz8
    refine wpAny_pure ⟨_, rfl, ?_⟩
    show Q (.ref h.objs.size) _
    rw [S.sz]
    refine hQ h₈ vs hz₈ (up _ _ D.TOz hT) (fun k a l ha hl' => ?_) hT₈ hvs (fun k x v h1 h2 => ?_) hz8 fun c o c1 c2 c3 e => up c o c1 (S.kp c o c1 c2 c3 e)
    · have := S.it k a l ha hl'
      rw [if_pos (List.getElem?_eq_some_iff.mp ha).1] at this
      exact this.at fun o e => up _ o (D.iz a (List.mem_of_getElem? ha)) e
    · exact hold k x v (by rw [← hX]; exact (List.getElem?_eq_some_iff.mp h1).1) h1 h2
theorem zipG_end {f0 : Value} {f1 : Bool} {z TI TO a l : Addr} {r : List Addr} {j : Nat} {x vs0 : Array Value} {Q : Fin → Shared → Prop} (hh : A.handled = none) (hza : a ≠ z) (hzl : l ≠ z) (hTOz : TO ≠ z)
    (hz : IsZipG s.heap z TI TO f0 f1) (hf : FreeF s.heap f0) (hTI : IsTupN s.heap TI ((a :: r).map Value.ref).toArray) (hit : s.heap.IsTupleIter a l j) (htp : s.heap.IsTuple l x) (hx : x[j]? = none)
    (hE : ∀ h' e, (∀ c o, c ≠ z → c ≠ a → s.heap.get? c = some o → h'.get? c = some o) → (∃ o, h'.get? e = some o ∧ o.cls = .type "StopIteration") → E (.ref e) { s with heap := h' }) :
    wpAny (model prog w) A (Builtin.«zip.__next__» ⟨[.ref z], []⟩) Q E s := by
  show wpAny _ _ (field (.ref z) 2 >>= _) _ _ _
  refine wpAny_bind (wpAny_field hz rfl (x := .bool false) rfl ?_)
  show wpAny _ _ (field (.ref z) 3 >>= _) _ _ _
  refine wpAny_bind (wpAny_field hz rfl (x := .ref TI) rfl ?_)
  refine wpAny_bind (wpAny_seqItems hTI rfl ?_)
  show wpAny _ _ (Builtin.SmallTypes.ownedTupleIsFree (.ref z) >>= _) _ _ _
  refine wpAny_bind (wpAny_zipFree hz hf ?_)
  simp only [if_true]
  refine wpAny_bind (wpAny_rule ?_)
  refine wpAny_bind (wpAny_field hz rfl (x := .ref TO) rfl ?_)
  refine wpAny_bind (wpAny_setField_rec hz (by simp) fun h₁ hz₁ hs₁ => ?_)
  replace hz₁ : IsZipG h₁ z TI TO .ellipsis f1 := hz₁
  refine wpAny_bind ?_
  simp only [List.map_cons, List.zipIdx_cons, List.forIn_cons]
  refine wpAny_bind (wpAny_bind (wpAny_onRaise ?_))
  show wpAny _ _ (Builtin.SmallTypes.nextOf (.ref a) >>= _) _ _ _
  refine wpAny_bind (RZ.nextOf_tuple_end hh (hit.extBut hs₁.extBut hza) (htp.extBut hs₁.extBut hzl) hx fun h₂ e hs₂ he => ?_)
  obtain ⟨oe, hoe, hce⟩ := he
  have hz₂ : IsZipG h₂ z TI TO .ellipsis f1 := hs₂ _ _ hza.symm hz₁
  have hez : e ≠ z := fun x => by subst x; rw [hz₂] at hoe; cases hoe; simp at hce
  exact wpAny_setField_rec hz₂ (by simp) fun h₃ _ hs₃ => hE h₃ e (fun c o c1 c3 x => hs₃.extBut _ _ c1 (hs₂ _ _ c3 (hs₁.extBut _ _ c1 x))) ⟨oe, hs₃.extBut _ _ hez hoe, hce⟩
end
end PySem

end

section
set_option Elab.async false
set_option linter.all false
set_option maxRecDepth 100000
set_option maxHeartbeats 2000000
namespace PySem
open Sem (wp)
section
variable {prog : Program} {w : World} {A : Around} {E : Value → Shared → Prop} {s : Shared}
/-- the zip's own object, whatever it handed out last -/
def IsZipS (h : Heap) (z TI TO : Addr) : Prop := ∃ f0 f1, IsZipG h z TI TO f0 f1 ∧ (f0 = .none ∨ ∃ T : Addr, f0 = rawInt T)
theorem IsZipS.type {z TI TO : Addr} (h : IsZipS s.heap z TI TO) : s.TypeIs (.ref z) "zip" := by
  obtain ⟨f0, f1, h, _⟩ := h
  exact ⟨_, h, rfl⟩
theorem IsZipS.at {h h' : Heap} {z TI TO : Addr} (hz : IsZipS h z TI TO) (k : ∀ o, h.get? z = some o → h'.get? z = some o) : IsZipS h' z TI TO := by
  obtain ⟨f0, f1, e, hf⟩ := hz
  exact ⟨f0, f1, k _ e, hf⟩
theorem zipS_item {z TI TO : Addr} {is ls : List Addr} {X : List (Array Value)} {j : Nat} {Q : Value → Shared → Prop} (D : ApN z TI TO is ls) (hne : is ≠ []) (hl : ls.length = is.length) (hX : X.length = is.length) (hsz : is.length ≤ sizeLine)
    (hz : IsZipS s.heap z TI TO) (hTI : IsTupN s.heap TI (is.map Value.ref).toArray) (hTO : ∃ vs : Array Value, IsTupN s.heap TO vs ∧ vs.size = is.length)
    (hit : ∀ (k : Nat) (a l : Addr), is[k]? = some a → ls[k]? = some l → s.heap.IsTupleIter a l j) (htp : ∀ (k : Nat) (l : Addr) (x : Array Value), ls[k]? = some l → X[k]? = some x → s.heap.IsTuple l x)
    (hx : ∀ (k : Nat) (x : Array Value), X[k]? = some x → ∃ v, x[j]? = some v)
    (hQ : ∀ (h' : Heap) (ws : Array Value), IsZipS h' z TI TO → (∃ vs : Array Value, IsTupN h' TO vs ∧ vs.size = is.length) → (∀ (k : Nat) (a l : Addr), is[k]? = some a → ls[k]? = some l → h'.IsTupleIter a l (j + 1)) → IsTupN h' s.heap.objs.size ws → ws.size = is.length → (∀ (k : Nat) (x : Array Value) (v : Value), X[k]? = some x → x[j]? = some v → ws[k]? = some v) → h'.objs.size = s.heap.objs.size + 1 →
      (∀ c o, c ≠ z → c ≠ TO → c ∉ is → s.heap.get? c = some o → h'.get? c = some o) → Q (.ref s.heap.objs.size) { s with heap := h' }) :
    wpAny (model prog w) A (Builtin.«zip.__next__» ⟨[.ref z], []⟩) (fun fin s' => ∃ v, fin = .done (.ret v) ∧ Q v s') E s := by
  obtain ⟨f0, f1, hz, hf⟩ := hz
  have free : FreeF s.heap f0 → wpAny (model prog w) A (Builtin.«zip.__next__» ⟨[.ref z], []⟩) (fun fin s' => ∃ v, fin = .done (.ret v) ∧ Q v s') E s := fun hf =>
    zipG_item D hne hl hX hsz hz hf hTI hTO hit htp hx fun h' ws a1 a2 a3 a4 a5 a6 a7 a8 => hQ h' ws ⟨_, _, a1, .inr ⟨_, rfl⟩⟩ ⟨ws, a2, a5⟩ a3 a4 a5 a6 a7 a8
  rcases hf with rfl | ⟨T, rfl⟩
  · exact free (.inl rfl)
  · cases e : s.heap.get? T with
    | none => exact free (.inr ⟨T, rfl, e⟩)
    | some oT =>
      refine zipN_item_held D hne hl hX hsz hz e hTI hit htp hx fun h' ws a1 a3 a4 a5 a6 a7 a8 => hQ h' ws ⟨_, _, a1, .inr ⟨_, rfl⟩⟩ ?_ a3 a4 a5 a6 a7 fun c o c1 _ c3 x => a8 c o c1 c3 x
      obtain ⟨vs, h1, h2⟩ := hTO
      exact ⟨vs, a8 _ _ D.TOz (fun q => D.iTO _ q rfl) h1, h2⟩
theorem zipS_end {z TI TO a l : Addr} {r : List Addr} {j : Nat} {x : Array Value} {Q : Fin → Shared → Prop} (hh : A.handled = none) (hza : a ≠ z) (hzl : l ≠ z) (hTOz : TO ≠ z)
    (hz : IsZipS s.heap z TI TO) (hTI : IsTupN s.heap TI ((a :: r).map Value.ref).toArray) (hit : s.heap.IsTupleIter a l j) (htp : s.heap.IsTuple l x) (hx : x[j]? = none)
    (hE : ∀ h' e, (∀ c o, c ≠ z → c ≠ a → s.heap.get? c = some o → h'.get? c = some o) → (∃ o, h'.get? e = some o ∧ o.cls = .type "StopIteration") → E (.ref e) { s with heap := h' }) :
    wpAny (model prog w) A (Builtin.«zip.__next__» ⟨[.ref z], []⟩) Q E s := by
  obtain ⟨f0, f1, hz, hf⟩ := hz
  have free : FreeF s.heap f0 → wpAny (model prog w) A (Builtin.«zip.__next__» ⟨[.ref z], []⟩) Q E s := fun hf =>
    zipG_end (vs0 := #[]) hh hza hzl hTOz hz hf hTI hit htp hx hE
  rcases hf with rfl | ⟨T, rfl⟩
  · exact free (.inl rfl)
  · cases e : s.heap.get? T with
    | none => exact free (.inr ⟨T, rfl, e⟩)
    | some oT => exact zipN_end_held hh hza hzl hz e hTI hit htp hx hE
theorem pyNext_zipS_item {z TI TO : Addr} {is ls : List Addr} {X : List (Array Value)} {j : Nat} {Q : Option Value → Shared → Prop} (D : ApN z TI TO is ls) (hne : is ≠ []) (hl : ls.length = is.length) (hX : X.length = is.length) (hsz : is.length ≤ sizeLine)
    (hz : IsZipS s.heap z TI TO) (hTI : IsTupN s.heap TI (is.map Value.ref).toArray) (hTO : ∃ vs : Array Value, IsTupN s.heap TO vs ∧ vs.size = is.length)
    (hit : ∀ (k : Nat) (a l : Addr), is[k]? = some a → ls[k]? = some l → s.heap.IsTupleIter a l j) (htp : ∀ (k : Nat) (l : Addr) (x : Array Value), ls[k]? = some l → X[k]? = some x → s.heap.IsTuple l x)
    (hx : ∀ (k : Nat) (x : Array Value), X[k]? = some x → ∃ v, x[j]? = some v)
    (hQ : ∀ (h' : Heap) (ws : Array Value), IsZipS h' z TI TO → (∃ vs : Array Value, IsTupN h' TO vs ∧ vs.size = is.length) → (∀ (k : Nat) (a l : Addr), is[k]? = some a → ls[k]? = some l → h'.IsTupleIter a l (j + 1)) → IsTupN h' s.heap.objs.size ws → ws.size = is.length → (∀ (k : Nat) (x : Array Value) (v : Value), X[k]? = some x → x[j]? = some v → ws[k]? = some v) → h'.objs.size = s.heap.objs.size + 1 →
      (∀ c o, c ≠ z → c ≠ TO → c ∉ is → s.heap.get? c = some o → h'.get? c = some o) → Q (some (.ref s.heap.objs.size)) { s with heap := h' }) :
    wpAny (model prog w) A (pyNext (.ref z)) Q E s := by
  have hTy := hz.type
  unfold pyNext
  exact wpAny_bind (wpAny_attempt (wpAny_callSpecial?_slot (name := Str.ofString "__next__") hTy F.slot_zip_next
    (wpAny_call_entry F.slot_zip_next hTy F.entry_zip_next
      (zipS_item D hne hl hX hsz hz hTI hTO hit htp hx fun h' ws a1 a2 a3 a4 a5 a6 a7 a8 => wpAny_pure (hQ h' ws a1 a2 a3 a4 a5 a6 a7 a8)) (F.args_zip_next_1 _))))
theorem pyNext_zipS_end {z TI TO a l : Addr} {r : List Addr} {j : Nat} {x : Array Value} {Q : Option Value → Shared → Prop} (hh : A.handled = none) (hza : a ≠ z) (hzl : l ≠ z) (hTOz : TO ≠ z)
    (hz : IsZipS s.heap z TI TO) (hTI : IsTupN s.heap TI ((a :: r).map Value.ref).toArray) (hit : s.heap.IsTupleIter a l j) (htp : s.heap.IsTuple l x) (hx : x[j]? = none)
    (hQ : ∀ h', (∀ c o, c ≠ z → c ≠ a → s.heap.get? c = some o → h'.get? c = some o) → Q none { s with heap := h' }) : wpAny (model prog w) A (pyNext (.ref z)) Q E s := by
  have hTy := hz.type
  unfold pyNext
  refine wpAny_bind (wpAny_attempt (wpAny_callSpecial?_slot (name := Str.ofString "__next__") hTy F.slot_zip_next
    (wpAny_call_entry F.slot_zip_next hTy F.entry_zip_next (zipS_end hh hza hzl hTOz hz hTI hit htp hx fun h' e hk he => ?_) (F.args_zip_next_1 _))))
  obtain ⟨o, ho, hc⟩ := he
  refine wpAny_bind (wpAny_isInstance (T := "StopIteration") (b := true) ⟨o, ho, hc⟩ isSubtype_stop ?_)
  exact wpAny_pure (hQ _ hk)
end
end PySem

end

section
set_option Elab.async false
set_option linter.all false
set_option maxRecDepth 100000
set_option maxHeartbeats 2000000
namespace TX
open PySem L2 Evl PyProof.Rows
/-- the tuples at as as they stand at each turn, the items in new tuples -/
def ItzS (K : PySem.W.Frag) (as : List Addr) : It :=
  ⟨fun i H => ∀ a ∈ as, ∃ (xs : List V) (x : V), SqT K H a xs ∧ xs[i]? = some x,
    fun i H v H' => ∃ (T : Addr) (ys : List V), v = .ref T ∧ H T = none ∧ H' = upd H T (.tup ys) ∧ ys.length = as.length ∧ ∀ (k : Nat) (a : Addr) (y : V), as[k]? = some a → ys[k]? = some y → ∀ xs, SqT K H a xs → xs[i]? = some y,
    fun i H => ∃ (a : Addr) (xs : List V), as[0]? = some a ∧ SqT K H a xs ∧ xs.length ≤ i⟩
theorem vals_of : ∀ {U : List V} {us : List Value}, U.length = us.length → (∀ (k : Nat) (u : V), U[k]? = some u → ∃ v, us[k]? = some v ∧ RelV u v) → Vals U us
  | [], [], _, _ => .nil
  | [], _ :: _, h, _ => by simp at h
  | _ :: _, [], h, _ => by simp at h
  | u :: U, v :: us, h, q => by
    obtain ⟨v', e, r⟩ := q 0 u rfl
    simp at e
    subst e
    exact .cons r (vals_of (by simpa using h) fun k x hx => by simpa using q (k + 1) x (by simpa using hx))
theorem turn_zipS {P : Program} {w : World} {K : PySem.W.Frag} {x : Str} {np : Pos} {z TI TO : Addr} {is as : List Addr} (D : ApN z TI TO is as) (hne : is ≠ []) (hl : as.length = is.length) (hsz : is.length ≤ 1000) :
    Turn P w K (.Name x np) (ItzS K as) (z :: TI :: TO :: is) z (fun i h => IsZipS h z TI TO ∧ IsTupN h TI (is.map Value.ref).toArray ∧ (∃ vs : Array Value, IsTupN h TO vs ∧ vs.size = is.length) ∧ ∀ (k : Nat) (a l : Addr), is[k]? = some a → as[k]? = some l → h.IsTupleIter a l i) where
  mem := by simp
  obj := fun i h st c hc => by
    obtain ⟨⟨f0, f1, hz, _⟩, hTI, ⟨vs, hTO, _⟩, hit⟩ := st
    rcases List.mem_cons.mp hc with q | hc
    · rw [q]; exact ⟨_, hz, fun v q => nomatch q⟩
    rcases List.mem_cons.mp hc with q | hc
    · rw [q]; exact ⟨_, hTI, fun v q => nomatch q⟩
    rcases List.mem_cons.mp hc with q | hc
    · rw [q]; exact ⟨_, hTO, fun v q => nomatch q⟩
    obtain ⟨k, hk, e⟩ := List.mem_iff_getElem.mp hc
    have e1 : is[k]? = some c := by rw [List.getElem?_eq_getElem hk, e]
    obtain ⟨o, eo, _, d⟩ := hit k c _ e1 (List.getElem?_eq_getElem (by omega))
    exact ⟨o, eo, fun v q => by rw [d] at q; cases q⟩
  keep := fun i h h' st k => by
    obtain ⟨hz, hTI, ⟨vs, hTO, hv⟩, hit⟩ := st
    exact ⟨hz.at fun o e => k z (by simp) o e, k TI (by simp) _ hTI, ⟨vs, k TO (by simp) _ hTO, hv⟩, fun j a l ha hl' => (hit j a l ha hl').at fun o q => k a (by simp [List.mem_of_getElem? ha]) o q⟩
  item := by
    intro X hP hw hK hc i pins s σ H E I hf st hg
    subst hP hw hK
    obtain ⟨hz, hTI, hTO, hit⟩ := st
    -- what the tuples hold
    have tup : ∀ a ∈ as, ∃ (xs : List V) (u : V) (its : List Value), SqT X.K H a xs ∧ xs[i]? = some u ∧ Vals xs its ∧ s.heap.IsTuple a its.toArray := fun a ha => by
      obtain ⟨xs, u, h1, h2⟩ := hg a ha
      obtain ⟨its, rv, p, _⟩ := I.tuple h1
      exact ⟨xs, u, its, h1, h2, rv, p⟩
    have ex : ∀ (L : List Addr), (∀ a ∈ L, a ∈ as) → ∃ (XX : List (List V)) (U : List V) (Y : List (List Value)), XX.length = L.length ∧ U.length = L.length ∧ Y.length = L.length ∧ ∀ (k : Nat) (a : Addr), L[k]? = some a → ∃ xs u its, XX[k]? = some xs ∧ U[k]? = some u ∧ Y[k]? = some its ∧ SqT X.K H a xs ∧ xs[i]? = some u ∧ Vals xs its ∧ s.heap.IsTuple a its.toArray := by
      intro L
      induction L with
      | nil => intro _; exact ⟨[], [], [], rfl, rfl, rfl, fun k a e => by simp at e⟩
      | cons b L ih =>
        intro hL
        obtain ⟨XX, U, Y, l1, l2, l3, q⟩ := ih fun a ha => hL a (List.mem_cons_of_mem _ ha)
        obtain ⟨xs, u, its, h1, h2, h3, h4⟩ := tup b (hL b List.mem_cons_self)
        refine ⟨xs :: XX, u :: U, its :: Y, by simp [l1], by simp [l2], by simp [l3], fun k a e => ?_⟩
        cases k with
        | zero => simp at e; subst e; exact ⟨xs, u, its, rfl, rfl, rfl, h1, h2, h3, h4⟩
        | succ k => simp at e; simpa using q k a e
    obtain ⟨XX, U, Y, l1, l2, l3, q⟩ := ex as fun a ha => ha
    have hzl : z < s.heap.objs.size := by obtain ⟨_, _, e, _⟩ := hz; exact Heap.lt_size e
    refine pyNext_zipS_item D hne hl (X := Y.map List.toArray) (by rw [List.length_map, l3, hl]) (by unfold sizeLine; omega) hz hTI hTO hit (fun k l y hl' hy => ?_) (fun k y hy => ?_) fun h' ws hz' hTO' hit' hT hws hval hsz' hk => ?_
    · rw [List.getElem?_map] at hy
      obtain ⟨xs, u, its, e1, e2, e3, _, _, _, e7⟩ := q k l hl'
      rw [e3] at hy
      cases hy
      exact e7
    · rw [List.getElem?_map] at hy
      cases e : Y[k]? with
      | none => rw [e] at hy; cases hy
      | some its =>
        rw [e] at hy
        cases hy
        have hk : k < as.length := by rw [← l3]; exact (List.getElem?_eq_some_iff.mp e).1
        obtain ⟨xs, u, its', e1, e2, e3, e4, e5, e6, e7⟩ := q k as[k] (List.getElem?_eq_getElem hk)
        rw [e] at e3
        cases e3
        obtain ⟨v, hv, _⟩ := e6.get e5
        exact ⟨v, by simpa using hv⟩
    · have hn : H s.heap.objs.size = none := I.hok.fresh (Nat.le_refl _)
      have hU : Vals U ws.toList := by
        refine vals_of (by rw [l2, hl, ← hws]; simp) fun k u hu => ?_
        have hk' : k < as.length := by rw [← l2]; exact (List.getElem?_eq_some_iff.mp hu).1
        obtain ⟨xs, u', its, e1, e2, e3, e4, e5, e6, e7⟩ := q k as[k] (List.getElem?_eq_getElem hk')
        rw [e2] at hu
        cases hu
        obtain ⟨v, hv, rv⟩ := e6.get e5
        refine ⟨v, ?_, rv⟩
        have := hval k its.toArray v (by rw [List.getElem?_map, e3]; rfl) (by simpa using hv)
        simpa using this
      have new : ObjOk X.prog X.w (upd H s.heap.objs.size (.tup U)) h' s.heap.objs.size (.tup U) :=
        ⟨by rw [l2]; unfold sizeLine; omega, ws.toList, hU, ⟨_, hT, rfl, 0, by simp⟩⟩
      have I1 : Inv X pins σ (upd H s.heap.objs.size (.tup U)) { s with heap := h' } :=
        I.turnedNew (t' := s.toks) (ch := z :: TI :: TO :: is) (fun c o hb q' => hk c o (fun e => hb (by simp [e])) (fun e => hb (by simp [e])) (fun e => hb (by simp [e])) q') hf (Nat.le_refl _) new
      refine ⟨_, rfl, ?_⟩
      refine wpAny_pure ⟨.ref s.heap.objs.size, _, I1, rfl, ⟨_, U, rfl, hn, rfl, l2, fun k a y ha hy xs hxs => ?_⟩, ⟨hz', ?_, hTO', hit'⟩, fun c hcm => ?_⟩
      · obtain ⟨xs', u', its, e1, e2, e3, e4, e5, e6, e7⟩ := q k a ha
        rw [e2] at hy
        cases hy
        rw [I.tuple_inj hxs e4]
        exact e5
      · exact hk _ _ D.TIz D.TITO (fun e => D.iTI _ e rfl) hTI
      · have hlt : c < s.heap.objs.size := by
          have hst : (IsZipS s.heap z TI TO ∧ IsTupN s.heap TI (is.map Value.ref).toArray ∧ (∃ vs : Array Value, IsTupN s.heap TO vs ∧ vs.size = is.length) ∧ ∀ (k : Nat) (a l : Addr), is[k]? = some a → as[k]? = some l → s.heap.IsTupleIter a l i) := ⟨hz, hTI, hTO, hit⟩
          rcases List.mem_cons.mp hcm with e | hcm
          · rw [e]; exact hzl
          rcases List.mem_cons.mp hcm with e | hcm
          · rw [e]; exact Heap.lt_size hTI
          rcases List.mem_cons.mp hcm with e | hcm
          · rw [e]; obtain ⟨vs, e1, _⟩ := hTO; exact Heap.lt_size e1
          obtain ⟨k, hk2, e⟩ := List.mem_iff_getElem.mp hcm
          obtain ⟨o, eo, _⟩ := hit k c _ (by rw [List.getElem?_eq_getElem hk2, e]) (List.getElem?_eq_getElem (by omega))
          exact Heap.lt_size eo
        rw [upd_ne (Nat.ne_of_lt hlt)]
        exact (hf c hcm).1
  done := by
    intro X hP hw hK hc i pins s σ H E I hf st hg
    subst hP hw hK
    obtain ⟨hz, hTI, hTO, hit⟩ := st
    obtain ⟨l, xs, h0, hq, hend⟩ := hg
    obtain ⟨its, rv, p, _⟩ := I.tuple hq
    have hlen := rv.length
    cases is with
    | nil => exact absurd rfl hne
    | cons a r =>
      have he : its.toArray[i]? = none := by simp; omega
      exact pyNext_zipS_end (I.ok.hd hc) (D.iz a List.mem_cons_self) (D.lz l (List.mem_of_getElem? h0)) D.TOz hz hTI (hit 0 a l rfl h0) p he fun h' hk => ⟨rfl, I.turnedL (t' := s.toks) (ch := z :: TI :: TO :: a :: r) (fun c o hb q =>
        hk c o (fun q' => hb (by simp [q'])) (fun q' => hb (by simp [q'])) q) hf⟩
  self := fun A i s Q E st h => by
    have hT := st.1.type
    refine wpAny_pyIter_slot hT F.slot_zip_iter (wpAny_call_entry F.slot_zip_iter hT F.entry_zip_iter ?_ (F.args_zip_iter_1 _))
    show wpAny _ _ (ret (.ref z)) _ _ s
    exact wpAny_pure ⟨_, rfl, "zip", _, hT, F.slot_zip_next.lookup, h⟩
end TX

end

section
set_option Elab.async false
set_option linter.all false
set_option maxRecDepth 100000
set_option maxHeartbeats 2000000
namespace PySem.F
open PySem
theorem zip_no_len : typeLookup (.type "zip") "__len__" = pure none := by rw [typeLookup_type, builtinLookup_eq_fast]; kernel_rfl
theorem zip_no_hint : typeLookup (.type "zip") "__length_hint__" = pure none := by rw [typeLookup_type, builtinLookup_eq_fast]; kernel_rfl
end PySem.F
namespace TX
open PySem L2 Evl PyProof.Rows PySem.Calls
section
variable {M : Model} {A : Around} {E : Value → Shared → Prop} {s : Shared} {env : Env} {pos p : Pos} {e : Expr} {T : String} {Q : Value → Shared → Prop}
/-- T(*e), T a built-in type -/
theorem callWith_typeS (h : wpAny M A (eval e env) (fun v s₁ => PySem.W.StarOf M A E v (fun vs s₂ => wpAny M A (call (.type T) vs) Q E s₂) s₁) E s)
    (he : starEach [.Starred e p] env = [(true, eval e env)] := by rfl) : wpAny M A (callWith pos (.type T) [] (backTo pos (starEach [.Starred e p] env)) []) Q E s := by
  rw [he]
  have h := PySem.W.ks_lone (f := .type T) (pos := pos) (Q := fun a s₁ => wpAny M A (call (.type T) ([] ++ a.pos) a.kw) Q E s₁) h
  unfold callWith
  refine wpAny_bind (wpAny_holding (wpAny_mono h (fun a s₁ h₁ => wpAny_bind (wpAny_standAt ?_)) fun _ _ x => x))
  refine wpAny_bind (wpAny_pure ?_)
  have tail : ∀ {t : Sem Value}, wpAny M A t Q E s₁ → wpAny M A (t >>= fun r => holding [r] point >>= fun _ => pure r) Q E s₁ :=
    fun ht => wpAny_bind (wpAny_mono ht (fun r s₂ hr => wpAny_bind (wpAny_holding (wpAny_point (wpAny_pure hr)))) fun _ _ y => y)
  exact tail (wpAny_operateT h₁)
end
/-! ### iterators that are values: zips -/
def PZE (X : Cx) (pins : List (Addr × Obj)) (σ : L2.St) (R : It → Hp → Prop) (v : Value) (s2 : Shared) : Prop :=
  ∃ (it : Addr) (fp : List Addr) (tn : Nat → Heap → Prop) (J : It) (H' : Hp), v = .ref it ∧ Inv X pins σ H' s2 ∧ (∀ x np, Turn X.prog X.w X.K (.Name x np) J fp it tn) ∧ tn 0 s2.heap ∧ (∀ b ∈ fp, FpOk X pins H' b) ∧ (∀ i (s : Shared), tn i s.heap → s.TypeIs (.ref it) "zip") ∧ R J H'
structure PZ (X : Cx) (e : Expr) (wi : TI) : Prop where
  run : ∀ (pins : List (Addr × Obj)) (s : Shared) (σ : L2.St) (H : Hp) (R : It → Hp → Prop), Inv X pins σ H s → wi σ H R → wpAny (model X.prog X.w) X.A (eval e X.env) (PZE X pins σ R) X.xe s
theorem PZ.of {X : Cx} {e : Expr} {t t' : TI} (h : PZ X e t) (w : ∀ σ H R, t' σ H R → t σ H R) : PZ X e t' := ⟨fun pins s σ H R I q => h.run pins s σ H R I (w σ H R q)⟩
theorem PZ.pi {X : Cx} {e : Expr} {wi : TI} {x : Str} {np : Pos} (h : PZ X e wi) : PI X (.Name x np) e wi := ⟨fun pins s σ H R I q =>
  thn (h.run pins s σ H R I q) fun v s1 ⟨it, fp, tn, J, H1, ev, I1, T, st, f, _, r⟩ => by
    subst ev
    exact (T x np).self X.A 0 s1 _ _ st ⟨it, fp, tn, J, H1, rfl, I1, T x np, st, f, r⟩⟩
/-! ### zip(*e) -/
def iZipS (K : PySem.W.Frag) (te : TE) : TI := fun σ H R => te σ H fun v H1 => ∃ (a : Addr) (ls : List Addr), v = .ref a ∧ (SqT K H1 a (ls.map V.ref) ∨ SqL K H1 a (ls.map V.ref)) ∧ ls ≠ [] ∧ ls.length ≤ 12 ∧ (∀ l ∈ ls, ∃ xs, SqT K H1 l xs) ∧ R (ItzS K ls) H1
theorem vals_refs : ∀ {ls : List Addr} {us : List Value}, Vals (ls.map V.ref) us → us = ls.map Value.ref
  | [], _, r => by cases r; rfl
  | l :: ls, _, r => by
    cases r with
    | cons r rr =>
      cases r
      rw [vals_refs rr]
      rfl
theorem pz_zipS {X : Cx} {e : Expr} {te : TE} {p sp_ pos : Pos} (hg : Gl X "zip") (hm : X.mg "zip" = none) (he : PE X e te) (hst : starEach [.Starred e sp_] X.env = [(true, eval e X.env)] := by rfl) :
    PZ X (.Call (.Name "zip" p) [.Starred e sp_] [] pos) (iZipS X.K te) := by
  refine ⟨fun pins s σ H R I h => ?_⟩
  refine Call_ (ld_blt I hg hm PyProof.Rows.boot_zip (callWith_typeS (thn (he.run pins s σ H _ I h) fun v s1 ⟨y, H1, I1, ry, a, ls, ey, hxs, hne, hl, htup, q⟩ => ?_) hst))
  subst ey
  obtain rfl : v = Value.ref a := ry
  refine StX.star_any I1 hxs fun us s2 I2 rv => ?_
  rw [vals_refs rv]
  have hL : ∀ l ∈ ls, ∃ x, s2.heap.IsTuple l x := fun l hm => by
    obtain ⟨xs, hx⟩ := htup l hm
    obtain ⟨its, _, p, _⟩ := I2.tuple hx
    exact ⟨_, p⟩
  have lt : ∀ l ∈ ls, l < s2.heap.objs.size := fun l hm => by
    obtain ⟨x, o, ho, _⟩ := hL l hm
    exact Heap.lt_size ho
  refine call_zipN hL hl fun h' hz hTI hTO hit hsz hk => ?_
  have I3 : Inv X pins σ H1 { s2 with heap := h' } := I2.kept (t' := s2.toks) hk
  generalize hn : s2.heap.objs.size = n at *
  have D : ApN (n + ls.length + 2) (n + ls.length) (n + ls.length + 1) (List.range' n ls.length) ls := by
    have lo : ∀ a b : Nat, a < b → (a : Addr) ≠ b := fun a b h e => Nat.lt_irrefl b (by rw [show a = b from e] at h; exact h)
    have up : ∀ a b : Nat, b < a → (a : Addr) ≠ b := fun a b h e => lo b a h e.symm
    have ri : ∀ i : Nat, i ∈ List.range' n ls.length → n ≤ i ∧ i < n + ls.length := fun i hi => List.mem_range'_1.mp hi
    refine ⟨lo _ _ (by omega), lo _ _ (by omega), lo _ _ (by omega), fun i hi => lo _ _ (by have := ri i hi; omega), fun i hi => up _ _ (by have := ri i hi; omega), fun i hi => up _ _ (by have := ri i hi; omega), List.nodup_range', fun l hl' => lo _ _ ?_, fun l hl' => lo _ _ ?_, fun l hl' i hi => lo _ _ ?_⟩
    · have : @LT.lt Nat _ l n := lt l hl'; omega
    · have : @LT.lt Nat _ l n := lt l hl'; omega
    · have : @LT.lt Nat _ l n := lt l hl'; have := ri i hi; omega
  have hne' : List.range' n ls.length ≠ [] := fun e => hne (List.length_eq_zero_iff.mp (by rw [← List.length_range' (s := n) (n := ls.length) (step := 1), e]; rfl))
  refine ⟨n + ls.length + 2, (n + ls.length + 2) :: (n + ls.length) :: (n + ls.length + 1) :: List.range' n ls.length, _, ItzS X.K ls, H1, rfl, I3, fun x np => turn_zipS D hne' (by rw [List.length_range']) (by rw [List.length_range']; omega),
    ⟨⟨_, _, hz, .inl rfl⟩, hTI, ?_, fun k b l hb hl' => ?_⟩, fun b hb => ?_, fun i s st => st.1.type, q⟩
  · exact hTO.elim fun vs hv => ⟨vs, hv.1, by rw [hv.2, List.length_range']⟩
  · have hk' : k < ls.length := (List.getElem?_eq_some_iff.mp hl').1
    rw [List.getElem?_range' (by omega)] at hb
    cases hb
    have := hit k l hl'
    rw [Nat.one_mul]
    exact this
  · have hle : @LE.le Nat _ n b := by
      rcases List.mem_cons.mp hb with e | hb
      · rw [e]; exact Nat.le_trans (Nat.le_add_right _ _) (Nat.le_add_right _ _)
      rcases List.mem_cons.mp hb with e | hb
      · rw [e]; exact Nat.le_add_right _ _
      rcases List.mem_cons.mp hb with e | hb
      · rw [e]; exact Nat.le_trans (Nat.le_add_right _ _) (Nat.le_add_right _ _)
      exact (List.mem_range'_1.mp hb).1
    rw [← hn] at hle
    exact I2.fpOk hle (I2.hok.fresh hle)
end TX

end

section
set_option Elab.async false
set_option linter.all false
set_option maxRecDepth 100000
set_option maxHeartbeats 2000000
namespace TX
open PySem L2 Evl PyProof.Rows
/-! ### zip(*e) over trees: rows of one length -/
def D.tup? : D → Option (List D)
  | .tup ds => some ds
  | _ => none
def D.tups? : List D → Option (List (List D))
  | [] => some []
  | d :: ds => match d.tup?, D.tups? ds with
    | some r, some rs => some (r :: rs)
    | _, _ => none
theorem tups?_of : ∀ {ds : List D} {rs : List (List D)}, D.tups? ds = some rs → ds = rs.map .tup
  | [], rs, h => by cases h; rfl
  | d :: ds, rs, h => by
    unfold D.tups? at h
    split at h
    · next r rs' e1 e2 =>
      cases h
      cases d with
      | tup xs => cases e1; rw [tups?_of e2]; rfl
      | _ => cases e1
    · cases h
def colsD (n : Nat) (rs : List (List D)) : List D := (List.range n).map fun j => .tup (rs.map fun r => r.getD j .non)
/-- the columns of rows that are tuples of one length -/
def zipS? (ds : List D) : Option (List D) := match D.tups? ds with
  | some (r :: rs) => if (rs.all fun x => x.length == r.length) = true ∧ rs.length ≤ 11 then some (colsD r.length (r :: rs)) else none
  | _ => none
inductive ZR (K : PySem.W.Frag) (M : Hp) : List Addr → List (List D) → Prop
  | nil : ZR K M [] []
  | cons {l : Addr} {vs : List V} {r : List D} {ls : List Addr} {rs : List (List D)} : SqT K M l vs → DqAll K M vs r → ZR K M ls rs → ZR K M (l :: ls) (r :: rs)
section
variable {K : PySem.W.Frag} {M M' : Hp}
theorem ZR.mono (e : Ex M M') : ∀ {ls : List Addr} {rs : List (List D)}, ZR K M ls rs → ZR K M' ls rs
  | _, _, .nil => .nil
  | _, _, .cons h1 h2 h3 => .cons (ex_t e h1) (dpAll_mono e h2) (h3.mono e)
theorem zr_of : ∀ {rs : List (List D)} {xs : List V}, DqAll K M xs (rs.map .tup) → ∃ ls, xs = ls.map V.ref ∧ ZR K M ls rs
  | [], _, h => by cases h; exact ⟨[], rfl, .nil⟩
  | r :: rs, _, h => by
    cases h with
    | cons h1 h2 =>
      obtain ⟨ls, e, z⟩ := zr_of h2
      cases h1 with
      | tup a1 a2 => exact ⟨_ :: ls, by rw [e]; rfl, .cons a1 a2 z⟩
theorem ZR.len : ∀ {ls : List Addr} {rs : List (List D)}, ZR K M ls rs → ls.length = rs.length
  | _, _, .nil => rfl
  | _, _, .cons _ _ h => by rw [List.length_cons, List.length_cons, h.len]
theorem ZR.get : ∀ {ls : List Addr} {rs : List (List D)} {k : Nat} {l : Addr}, ZR K M ls rs → ls[k]? = some l → ∃ r vs, rs[k]? = some r ∧ SqT K M l vs ∧ DqAll K M vs r
  | _, _, _, _, .nil, h => by simp at h
  | _, _, 0, _, .cons h1 h2 _, h => by simp at h; subst h; exact ⟨_, _, rfl, h1, h2⟩
  | _, _, k + 1, _, .cons _ _ h3, h => by
    obtain ⟨r, vs, e, q⟩ := h3.get (k := k) (by simpa using h)
    exact ⟨r, vs, by simpa using e, q⟩
theorem dqAll_at : ∀ {ys : List V} {ds : List D}, ys.length = ds.length → (∀ (k : Nat) (y : V) (d : D), ys[k]? = some y → ds[k]? = some d → Dq K M y d) → DqAll K M ys ds
  | [], [], _, _ => .nil
  | [], _ :: _, h, _ => by simp at h
  | _ :: _, [], h, _ => by simp at h
  | y :: ys, d :: ds, h, q => .cons (q 0 y d rfl rfl) (dqAll_at (by simpa using h) fun k y' d' h1 h2 => q (k + 1) y' d' (by simpa using h1) (by simpa using h2))
theorem colsD_get {n i : Nat} {rs : List (List D)} {d : D} (h : (colsD n rs)[i]? = some d) : i < n ∧ d = .tup (rs.map fun r => r.getD i .non) := by
  unfold colsD at h
  rw [List.getElem?_map] at h
  cases e : (List.range n)[i]? with
  | none => rw [e] at h; cases h
  | some j =>
    rw [e] at h
    cases h
    obtain ⟨h1, h2⟩ := List.getElem?_eq_some_iff.mp e
    rw [List.length_range] at h1
    rw [List.getElem_range] at h2
    subst h2
    exact ⟨h1, rfl⟩
theorem colsD_len {n : Nat} {rs : List (List D)} : (colsD n rs).length = n := by unfold colsD; rw [List.length_map, List.length_range]
theorem src_zipS {ls : List Addr} {r0 : List D} {rs : List (List D)} {n : Nat} (hn : ∀ r ∈ r0 :: rs, r.length = n) : Src K (ItzS K ls) (colsD n (r0 :: rs)) fun M => ZR K M ls (r0 :: rs) where
  mono := fun M M' e h => h.mono e
  stop := fun i H M e h hi => by
    rw [colsD_len] at hi
    cases h with
    | cons h1 h2 h3 => exact ⟨_, _, rfl, ex_t e h1, by rw [dpAll_len h2, hn _ List.mem_cons_self]; exact hi⟩
  go := fun i H M e h hi a ha => by
    rw [colsD_len] at hi
    obtain ⟨k, hk, ek⟩ := List.mem_iff_getElem.mp ha
    obtain ⟨r, vs, e1, e2, e3⟩ := h.get (k := k) (by rw [List.getElem?_eq_getElem hk, ek])
    have hl : i < vs.length := by rw [dpAll_len e3, hn r (List.mem_of_getElem? e1)]; exact hi
    exact ⟨vs, vs[i], ex_t e e2, List.getElem?_eq_getElem hl⟩
  yld := fun Xs st σ i H x H' d rel h hd ⟨T, ys, e1, e2, e3, hl, hy⟩ => by
    subst e1; subst e3
    obtain ⟨hi, ed⟩ := colsD_get hd
    subst ed
    have q : DqAll K (vis Xs st σ H) ys ((r0 :: rs).map fun r => r.getD i .non) := by
      refine dqAll_at (by rw [hl, h.len, List.length_map]) fun k y d hk hd => ?_
      have hk' : k < ls.length := by rw [← hl]; exact (List.getElem?_eq_some_iff.mp hk).1
      obtain ⟨r, vs, e4, e5, e6⟩ := h.get (k := k) (List.getElem?_eq_getElem hk')
      have ev := hy k _ y (List.getElem?_eq_getElem hk') hk vs (ex_t msk_ex e5)
      rw [List.getElem?_map, e4] at hd
      cases hd
      obtain ⟨d', q1, q2⟩ := dpAll_get e6 ev
      have : r.getD i .non = d' := by rw [List.getD_eq_getElem?_getD, q1]; rfl
      show Dq K _ y (r.getD i .non)
      rw [this]
      exact q2
    exact ⟨rel_new rel e2, (val_newT rel e2 q).dp⟩
end
/-- what comes from zip(*e) -/
def iZipT (e : EvE) : EvI := fun st => (e st).bind fun z st1 => match z.1 with
  | .tup ds => (match zipS? ds with | some cs => .ok cs st1 | none => .no)
  | .lst ds => (match zipS? ds with | some cs => .ok cs st1 | none => .no)
  | _ => .no
section
variable {X : Cx} {w : Wi}
theorem zipS?_of {ds cs : List D} (h : zipS? ds = some cs) : ∃ r rs, ds = (r :: rs).map .tup ∧ (∀ x ∈ r :: rs, x.length = r.length) ∧ (r :: rs).length ≤ 12 ∧ cs = colsD r.length (r :: rs) := by
  unfold zipS? at h
  split at h
  · next r rs e =>
    split at h
    · next hc =>
      cases h
      refine ⟨r, rs, tups?_of e, fun x hx => ?_, by rw [List.length_cons]; omega, rfl⟩
      rcases List.mem_cons.mp hx with e | hx
      · rw [e]
      · exact eq_of_beq (List.all_eq_true.mp hc.1 x hx)
    · cases h
  · cases h
theorem xz_zipS {e : Expr} {ev : EvE} {p sp_ pos : Pos} (hm : X.mg "zip" = none) (he : PE X e (tE X.K w ev)) (hg : Gl X "zip" := by rfl) (hst : starEach [.Starred e sp_] X.env = [(true, eval e X.env)] := by rfl) :
    PZ X (.Call (.Name "zip" p) [.Starred e sp_] [] pos) (tI X.K w (iZipT ev)) :=
  PZ.of (pz_zipS hg hm he hst) fun σ H R h => by
    obtain ⟨Xs, st, rel, h⟩ := h
    refine tE_seq rel h fun x H1 rx st1 p1 v1 h1 => ?_
    have dp := v1.dp
    have fin : ∀ {ds cs : List D} {xs : List V} {a : Addr}, zipS? ds = some cs → x = .ref a → DqAll X.K (vis Xs st1 σ H1) xs ds → (SqT X.K H1 a xs ∨ SqL X.K H1 a xs) → Rdo (O.ok cs st1) (fun ds st' => ∀ J H' C, Post X.K Xs st σ H st' H' → Src X.K J ds C → C (vis Xs st' σ H') → R J H') (exW X.K w Xs st1 σ H1) →
        ∃ (a : Addr) (ls : List Addr), x = .ref a ∧ (SqT X.K H1 a (ls.map V.ref) ∨ SqL X.K H1 a (ls.map V.ref)) ∧ ls ≠ [] ∧ ls.length ≤ 12 ∧ (∀ l ∈ ls, ∃ xs, SqT X.K H1 l xs) ∧ R (ItzS X.K ls) H1 := fun {ds cs xs a} hz ex hd hs hR => by
      obtain ⟨r, rs, e1, e2, e3, e4⟩ := zipS?_of hz
      subst e1 e4
      obtain ⟨ls, el, zr⟩ := zr_of hd
      subst el
      refine ⟨a, ls, ex, hs, ?_, by rw [zr.len]; exact e3, fun l hl => ?_, hR _ H1 _ p1 (src_zipS e2) zr⟩
      · cases zr; exact fun z => by cases z
      · obtain ⟨k, hk, ek⟩ := List.mem_iff_getElem.mp hl
        obtain ⟨_, vs, _, e5, _⟩ := zr.get (k := k) (by rw [List.getElem?_eq_getElem hk, ek])
        exact ⟨vs, ex_t msk_ex e5⟩
    revert h1 dp
    cases rx.1 with
    | tup ds =>
      intro h1 dp
      cases dp with
      | tup q1 q2 =>
        dsimp only at h1
        split at h1
        · next cs ec => exact fin ec rfl q2 (.inl (ex_t msk_ex q1)) h1
        · exact h1.elim
    | lst ds =>
      intro h1 dp
      cases dp with
      | lst q1 q2 =>
        dsimp only at h1
        split at h1
        · next cs ec => exact fin ec rfl q2 (.inr (SqL.of (msk_ex _ _ q1))) h1
        · exact h1.elim
    | _ => intro h1; exact h1.elim
theorem xi_zipS {e : Expr} {ev : EvE} {p sp_ pos : Pos} {x : Str} {np : Pos} (hm : X.mg "zip" = none) (he : PE X e (tE X.K w ev)) (hg : Gl X "zip" := by rfl) (hst : starEach [.Starred e sp_] X.env = [(true, eval e X.env)] := by rfl) :
    PI X (.Name x np) (.Call (.Name "zip" p) [.Starred e sp_] [] pos) (tI X.K w (iZipT ev)) := (xz_zipS hm he hg hst).pi
end
end TX

end

section
set_option Elab.async false
set_option linter.all false
set_option maxRecDepth 100000
set_option maxHeartbeats 2000000
namespace TX
open PySem L2 Evl PyProof.Rows PySem.Calls
/-- the same context, one call of a built-in deeper -/
abbrev cxA (X : Cx) (A : Around) : Cx := { X with A := A }
section
variable {X : Cx} {pins : List (Addr × Obj)} {σ : L2.St} {H : Hp} {s : Shared} {A : Around}
theorem inv_toA (hh : A.handled = X.A.handled) (hf : A.frames = X.A.frames) (I : Inv X pins σ H s) : Inv (cxA X A) pins σ H s :=
  ⟨⟨I.ok.mod, I.ok.kind, I.ok.glob, I.ok.blt, I.ok.above, I.ok.inj, I.ok.has, I.ok.cab, fun h => hh.trans (I.ok.hd h), hf.trans I.ok.frames, I.ok.stk, I.ok.exf, I.ok.bs, I.ok.bsz, I.ok.noex, I.ok.exfs, I.ok.funs, I.ok.frf⟩, I.os, I.bare, I.base, I.loc, I.cell, I.free, I.freeC, I.pin, I.hok, I.len⟩
theorem inv_ofA (hh : A.handled = X.A.handled) (hf : A.frames = X.A.frames) (I : Inv (cxA X A) pins σ H s) : Inv X pins σ H s :=
  ⟨⟨I.ok.mod, I.ok.kind, I.ok.glob, I.ok.blt, I.ok.above, I.ok.inj, I.ok.has, I.ok.cab, fun h => hh.symm.trans (I.ok.hd h), hf.symm.trans I.ok.frames, I.ok.stk, I.ok.exf, I.ok.bs, I.ok.bsz, I.ok.noex, I.ok.exfs, I.ok.funs, I.ok.frf⟩, I.os, I.bare, I.base, I.loc, I.cell, I.free, I.freeC, I.pin, I.hok, I.len⟩
/-- the drain of an iterator into a list that is tracked -/
theorem drainS {J : It} {fp : List Addr} {it S : Addr} {tn : Nat → Heap → Prop} {n : Nat} {W : Nat → Hp → Prop} {R : Result → Shared → Prop} {res : Value} {x : Str} {np : Pos} (hc : X.calm = true) (hA : A.in1.handled = X.A.handled) (hAf : A.in1.frames = X.A.frames)
    (T : Turn X.prog X.w X.K (.Name x np) J fp it tn) (hstop : ∀ H, W n H → J.stop n H) (hgo : ∀ i H, W i H → i < n → J.go i H ∧ ∀ y H', J.yld i H y H' → ∃ xs, H' S = some (.lst xs) ∧ xs.length < sizeLine ∧ W (i + 1) (upd H' S (.lst (xs ++ [y]))))
    (hend : ∀ H s', W n H → Inv X pins σ H s' → R (.ok (.ret res)) s') (hS : ∀ b ∈ fp, b ≠ S) :
    ∀ (k i : Nat) (H : Hp) (s : Shared), n - i = k → i ≤ n → W i H → Inv X pins σ H s → (∀ b ∈ fp, FpOk X pins H b) → tn i s.heap → codeAny (model X.prog X.w) A (.builtin "list.extend.loop" ⟨[.ref S, .ref it, res], []⟩) R s := by
  intro k
  induction k with
  | zero =>
    intro i H s hk hi w I f st
    have e : i = n := by omega
    subst e
    refine codeAny_builtin F.entry_extend_loop ?_
    rw [Around.under_plainId F.plain_extend_loop _]
    show wpAny _ A.in1 (pyNext (.ref it) >>= _) _ _ s
    have td := T.done (cxA X A.in1) rfl rfl rfl hc i pins s σ H (fun _ _ => False) (inv_toA hA hAf I) (fun b hb => f b hb) st (hstop H w)
    refine wpAny_bind (wpAny_mono td (fun r s1 ⟨hr, I1⟩ => ?_) fun _ _ z => z.elim)
    subst hr
    exact wpAny_pure (hend H s1 w (inv_ofA hA hAf I1))
  | succ k ih =>
    intro i H s hk hi w I f st
    have hlt : i < n := by omega
    obtain ⟨go, step⟩ := hgo i H w hlt
    refine codeAny_builtin F.entry_extend_loop ?_
    rw [Around.under_plainId F.plain_extend_loop _]
    show wpAny _ A.in1 (pyNext (.ref it) >>= _) _ _ s
    have ti := T.item (cxA X A.in1) rfl rfl rfl hc i pins s σ H (fun _ _ => False) (inv_toA hA hAf I) (fun b hb => f b hb) st go
    refine wpAny_bind (wpAny_mono ti (fun r s1 ⟨u, hr, h1⟩ => ?_) fun _ _ z => z.elim)
    subst hr
    -- a name's target lets nothing go
    have h2 : wpAny (model X.prog X.w) A.in1 (pure () : Sem Unit) (fun _ s2 => ∃ y H', Inv (cxA X A.in1) pins σ H' s2 ∧ RelV y u ∧ J.yld i H y H' ∧ tn (i + 1) s2.heap ∧ ∀ b ∈ fp, H' b = none) (fun _ _ => False) s1 := h1
    show wpAny _ A.in1 ((pure () : Sem Unit) >>= fun _ => updateSeq S (·.push u) >>= _) _ _ _
    refine wpAny_bind (wpAny_mono h2 (fun _ s1 ⟨y, H1, I1, ry, hy, st1, n1⟩ => ?_) fun _ _ z => z.elim)
    obtain ⟨xs, hD, hz, w'⟩ := step y H1 hy
    have I1 := inv_ofA hA hAf I1
    obtain ⟨hz', its, c, ri, e⟩ := I1.hok S _ hD
    have hl := ri.length
    refine wpAny_bind (wpAny_updateSeq e rfl (wpAny_pure ⟨plainId_quiet F.plain_extend_loop _, ?_⟩) (by rw [List.size_toArray]; omega) (by show (its.toArray.push u).size ≤ sizeLine + 1; rw [Array.size_push, List.size_toArray]; omega))
    have up := Heap.get?_update_self (Obj.mapSeq (·.push u)) e rfl
    have I2 : Inv X pins σ (upd H1 S (.lst (xs ++ [y]))) { s1 with heap := s1.heap.update S (Obj.mapSeq (·.push u)) } := by
      refine I1.write (t' := s1.toks) (by rw [hD]; trivial) (.inl rfl) (fun b o hb q => (Heap.get?_update_other _ _ (Ne.symm hb)).trans q) ⟨_, up⟩ ⟨by rw [List.length_append]; exact hz, its ++ [u], c + 1, ri.append (.cons ry .nil), ?_⟩
      rw [up]
      simp [Obj.mapSeq]
    refine ih (i + 1) _ _ (by omega) hlt w' I2 (fun b hb => ?_) (T.keep _ _ _ st1 fun b hb o q => (Heap.get?_update_other _ _ (Ne.symm (hS b hb))).trans q)
    refine ⟨?_, (f b hb).2⟩
    rw [upd_ne (hS b hb)]
    exact n1 b hb
end
end TX

end

section
set_option Elab.async false
set_option linter.all false
set_option maxRecDepth 100000
set_option maxHeartbeats 2000000
namespace TX
open PySem L2 Evl PyProof.Rows PySem.Calls
section
variable {X : Cx} {pins : List (Addr × Obj)} {σ : L2.St} {H : Hp} {s : Shared}
/-- list(z), z a zip -/
theorem callListZ {J : It} {fp : List Addr} {it : Addr} {tn : Nat → Heap → Prop} {n : Nat} {W : Addr → Nat → Hp → Prop} {Q : VK} (hc : X.calm = true) (I : Inv X pins σ H s) (T : ∀ x np, Turn X.prog X.w X.K (.Name x np) J fp it tn) (st : tn 0 s.heap)
    (f : ∀ b ∈ fp, FpOk X pins H b) (hty : ∀ i (s : Shared), tn i s.heap → s.TypeIs (.ref it) "zip") (h0 : ∀ S, H S = none → W S 0 (upd H S (.lst []))) (hstop : ∀ S H, W S n H → J.stop n H)
    (hgo : ∀ S i H, W S i H → i < n → J.go i H ∧ ∀ y H', J.yld i H y H' → ∃ xs, H' S = some (.lst xs) ∧ xs.length < sizeLine ∧ W S (i + 1) (upd H' S (.lst (xs ++ [y])))) (hend : ∀ S H', W S n H' → Q (.ref S) H') :
    wpAny (model X.prog X.w) X.A (call (.type "list") [.ref it]) (EP X pins σ Q) X.xe s := by
  have sz : ∀ b ∈ fp, b < s.heap.objs.size := fun b hb => by
    obtain ⟨o, e, _⟩ := (T "x" ⟨0, 0, 0, 0⟩).obj _ _ st b hb
    exact Heap.lt_size e
  have hSf : ∀ b ∈ fp, b ≠ s.heap.objs.size := fun b hb => Nat.ne_of_lt (sz b hb)
  have hSI : s.heap.objs.size ≠ it := Ne.symm (hSf it (T "x" ⟨0, 0, 0, 0⟩).mem)
  refine callType_codes (Q₁ := fun obj s₁ => obj = .ref s.heap.objs.size ∧ s₁ = { s with heap := s.heap.push { cls := .type "list", data := .seq #[] } }) F.called_list (F.typeCall_list_1 _) F.entry_list_init
    (code_list_new _ ⟨rfl, rfl⟩) fun obj s₁ h₁ => ?_
  obtain ⟨rfl, rfl⟩ := h₁
  have hS : (s.heap.push { cls := .type "list", data := .seq #[] }).get? s.heap.objs.size = some { cls := .type "list", data := .seq #[] } := Heap.get?_push_size _ rfl
  refine ⟨⟨_, hS, rfl⟩, F.args_list_init_2 _ _, ?_⟩
  show wpAny _ X.A.in1.in1 (do let old ← Builtin.List.listItems (.ref s.heap.objs.size); Builtin.List.listUpdate (.ref s.heap.objs.size) (fun _ => #[]); letGo old.toList.reverse; Builtin.List.listExtendWith (.ref s.heap.objs.size) (.ref it) .none) _ _ _
  refine wpAny_bind ?_
  unfold Builtin.List.listItems
  refine wpAny_bind (wpAny_seqItems hS rfl (wpAny_pure ?_))
  show wpAny _ X.A.in1.in1 (updateSeq s.heap.objs.size (fun _ => #[]) >>= fun _ => letGo (#[] : Array Value).toList.reverse >>= fun _ => Builtin.List.listExtendWith (.ref s.heap.objs.size) (.ref it) .none) _ _ _
  refine wpAny_bind (wpAny_updateSeq hS rfl ?_)
  have hS2 := Heap.get?_update_self (Obj.mapSeq (fun _ => (#[] : Array Value))) hS rfl
  refine wpAny_bind (wpAny_letGo ?_)
  unfold Builtin.List.listExtendWith
  have up : ∀ (h : Heap) (f : Obj → Obj), (∀ b o, s.heap.get? b = some o → h.get? b = some o) → ∀ b o, s.heap.get? b = some o → (h.update s.heap.objs.size f).get? b = some o := fun h f q b o e =>
    (Heap.get?_update_other _ _ (Ne.symm (Nat.ne_of_lt (Heap.lt_size e)))).trans (q b o e)
  have k1 : ∀ b o, s.heap.get? b = some o → (s.heap.push { cls := .type "list", data := .seq #[] }).get? b = some o := fun b o e => Heap.get?_push_of_some _ e
  have k2 := up _ (Obj.mapSeq (fun _ => (#[] : Array Value))) k1
  have gty : ∀ {h : Heap}, (∀ b o, s.heap.get? b = some o → h.get? b = some o) → tn 0 h := fun {h} q => (T "x" ⟨0, 0, 0, 0⟩).keep _ _ _ st fun b _ o e => q b o e
  refine wpAny_bind (wpAny_typeOf (hty 0 ({ s with heap := _ } : Shared) (gty k2)) ?_)
  have h1 : Builtin.List.listSameRef (.ref s.heap.objs.size) (.ref it) = false := by simp [Builtin.List.listSameRef, hSI]
  have h2 : (Value.type "zip" == Value.type "list") = false := by decide
  have h3 : (Value.type "zip" == Value.type "tuple") = false := by decide
  simp only [h1, h2, h3, Bool.or_false, Bool.false_eq_true, if_false]
  refine wpAny_bind ((T "x" ⟨0, 0, 0, 0⟩).self _ 0 ({ s with heap := _ } : Shared) _ _ (gty k2) ?_)
  refine wpAny_bind (wpAny_holding ?_)
  unfold Builtin.List.listLengthHint
  refine wpAny_bind (wpAny_specialOf (hty 0 ({ s with heap := _ } : Shared) (gty k2)) F.zip_no_len ?_)
  show wpAny _ X.A.in1.in1 (specialOf (Value.ref it) (Str.ofString "__length_hint__") >>= _) _ _ _
  refine wpAny_bind (wpAny_specialOf (hty 0 ({ s with heap := _ } : Shared) (gty k2)) F.zip_no_hint ?_)
  refine wpAny_pure ?_
  show wpAny _ X.A.in1.in1 (rule "list.extend.makes-room" >>= fun _ => Builtin.List.listTouch (.ref s.heap.objs.size) >>= fun _ =>
    again (.builtin "list.extend.loop" ⟨[.ref s.heap.objs.size, .ref it, .none], []⟩)) _ _ _
  refine wpAny_bind (wpAny_rule ?_)
  refine wpAny_bind ?_
  show wpAny _ X.A.in1.in1 (updateSeq s.heap.objs.size (·.push .none) >>= fun _ => updateSeq s.heap.objs.size (·.pop)) _ _ _
  refine wpAny_bind (wpAny_updateSeq hS2 rfl ?_)
  have hS3 := Heap.get?_update_self (Obj.mapSeq (·.push Value.none)) hS2 rfl
  refine wpAny_updateSeq (hz := by seq_fits) hS3 rfl ?_
  have hS4 := Heap.get?_update_self (Obj.mapSeq (·.pop)) hS3 rfl
  have k4 := up _ (Obj.mapSeq (·.pop)) (up _ (Obj.mapSeq (·.push Value.none)) k2)
  refine wpAny_pure ⟨plainId_quiet F.plain_extend_loop _, ?_⟩
  have hn : H s.heap.objs.size = none := I.hok.fresh (Nat.le_refl _)
  have I2 : Inv X pins σ (upd H s.heap.objs.size (.lst [])) { s with heap := _ } := I.laid (t' := s.toks) k4 (Nat.le_refl _) ⟨Nat.zero_le _, [], _, .nil, hS4⟩
  refine drainS (X := X) (A := X.A.in1) (W := W s.heap.objs.size) (n := n) hc rfl rfl (T "x" ⟨0, 0, 0, 0⟩) (hstop _) (hgo _) (fun H' s' w' I' => ⟨rfl, ⟨.ref s.heap.objs.size, H', I', rfl, hend _ H' w'⟩⟩) hSf n 0 _ _ rfl (Nat.zero_le _) (h0 _ hn) I2 (fun b hb => ⟨?_, (f b hb).2⟩) (gty k4)
  rw [upd_ne (hSf b hb)]
  exact (f b hb).1
end
/-- list(z) over trees -/
def eListI (it : EvI) : EvE := fun st => (it st).bind fun ds st1 => if ds.length ≤ 100000 then .ok (.lst ds, true) st1 else .no
theorem hyp_of {K : PySem.W.Frag} {Xs : List Addr} {st : List Sl} {σ : L2.St} {H : Hp} {S : Addr} (r : Rel K Xs st σ H) (hS : H S = none) : Rel K (S :: Xs) st σ (upd H S (.lst [])) ∧ Ex (vis Xs st σ H) (vis (S :: Xs) st σ (upd H S (.lst []))) := by
  have v := (val_newL (vs := []) (ds := []) r hS .nil).fr rfl
  obtain ⟨p, vs, ds, e1, e2, e3, e4, e5, e6⟩ := v
  cases e1
  refine ⟨e6, fun a o e => ?_⟩
  obtain ⟨n, e⟩ := msk_some e
  have ap : a ≠ S := fun z => by rw [z, hS] at e; cases e
  show msk (ownd st σ ++ S :: Xs) _ a = _
  rw [msk_out, upd_ne ap, e]
  intro hm
  rcases List.mem_append.mp hm with hm | hm
  · exact n (List.mem_append_left _ hm)
  · rcases List.mem_cons.mp hm with hm | hm
    · exact ap hm
    · exact n (List.mem_append_right _ hm)
section
variable {X : Cx} {w : Wi}
/-- between two turns of the drain -/
structure Dr (K : PySem.W.Frag) (Xs : List Addr) (st : List Sl) (σ : L2.St) (H0 : Hp) (ds : List D) (S : Addr) (i : Nat) (H : Hp) : Prop where
  rel : Rel K (S :: Xs) st σ H
  ex : Ex (vis Xs st σ H0) (vis (S :: Xs) st σ H)
  xs : ∀ x ∈ Xs, Kp (H0 x) (H x)
  dom : ∀ a, H a = none → H0 a = none
  fr : H0 S = none
  lst : ∃ us, H S = some (.lst us) ∧ DqAll K (vis (S :: Xs) st σ H) us (ds.take i)
theorem XsOk.setL {K : PySem.W.Frag} {Xs : List Addr} {H : Hp} {S : Addr} {us vs : List V} (h : XsOk K Xs H) (hS : H S = some (.lst us)) : XsOk K Xs (upd H S (.lst vs)) := ⟨fun x hx => by
  by_cases e : x = S
  · rw [e, upd_same]; simp
  · rw [upd_ne e]; exact h.ne x hx, fun P hP => by
  obtain ⟨h1, ps, h2, h3⟩ := h.tb P hP
  refine ⟨h1, ps, ?_, h3⟩
  rw [upd_ne fun e => by rw [e, hS] at h2; cases h2]
  exact h2⟩
theorem x_listZ {e : Expr} {it : EvI} {p pos : Pos} (hc : X.calm = true) (hm : X.mg "list" = none) (h : PZ X e (tI X.K w it)) (hg : Gl X "list" := by rfl) (hs : starEach [e] X.env = (false, eval e X.env) :: starEach [] X.env := by rfl) : PE X (.Call (.Name "list" p) [e] [] pos) (tE X.K w (eListI it)) := by
  refine ⟨fun pins s σ H Q I hq => ?_⟩
  obtain ⟨Xs, st, rel, hq⟩ := hq
  refine wpAny_Call_Name_kw (ld_blt I hg hm (show bootBuiltins "list" = some (.type "list") by decide +kernel) ?_)
  refine PyProof.Rows.callWith_type1 ?_ hs rfl
  rw [hs]
  show wpAny _ _ (spliced ((false, eval e X.env) :: backTo pos (starEach [] X.env))) _ _ s
  have hq := rdo_bind hq
  refine Calls.spliced_cons (thn (h.run pins s σ H (fun J H1 => ∃ ds C st1, Post X.K Xs st σ H st1 H1 ∧ Src X.K J ds C ∧ C (vis Xs st1 σ H1) ∧ ds.length ≤ 100000 ∧ ∀ v H', Post X.K Xs st σ H st1 H' → Val X.K Xs σ H st1 H' v (.lst ds, true) → Q v H') I ?_) fun u s1 ⟨itA, fp, tn, J, H1, eu, I1, T, stt, f, hty, ds, C, st1, p1, src, hC, hl, hQ⟩ => ?_)
  · refine ⟨Xs, st, rel, hq.mono (fun ds st1 g J H' C p src hC => ?_) fun _ _ _ x => x⟩
    by_cases hl : ds.length ≤ 100000
    · rw [if_pos hl] at g
      exact ⟨ds, C, st1, p, src, hC, hl, g⟩
    · rw [if_neg hl] at g
      exact g.elim
  · subst eu
    refine Calls.spliced_nil ?_
    refine callListZ (X := X) (n := ds.length) (W := Dr X.K Xs st1 σ H1 ds) hc I1 T stt f hty (fun S hS => ?_) (fun S H' w' => src.stop _ _ _ msk_ex (src.mono _ _ w'.ex hC) (Nat.le_refl _)) (fun S i H' w' hi => ⟨src.go _ _ _ msk_ex (src.mono _ _ w'.ex hC) hi, fun y H2 hy => ?_⟩) fun S H' w' => ?_
    · obtain ⟨r, ex⟩ := hyp_of p1.rel hS
      exact ⟨r, ex, fun x hx => .inl (upd_ne fun z => p1.rel.xs.ne x hx (by rw [z]; exact hS)), fun a ha => by
        by_cases e : a = S
        · rw [e]; exact hS
        · rw [upd_ne e] at ha; exact ha, hS, [], upd_same, by rw [List.take_zero]; exact .nil⟩
    · obtain ⟨us, hu, hd⟩ := w'.lst
      obtain ⟨p2, d2⟩ := src.yld _ _ _ i H' y H2 ds[i] w'.rel (src.mono _ _ w'.ex hC) (List.getElem?_eq_getElem hi) hy
      have hS2 : H2 S = some (.lst us) := (((p2.xs S List.mem_cons_self).lst hu).trans hu)
      have hul : us.length ≤ i := by rw [dpAll_len hd, List.length_take]; omega
      have hidS : S ∈ hid (S :: Xs) st1 σ := List.mem_append_right _ List.mem_cons_self
      have ev : vis (S :: Xs) st1 σ (upd H2 S (.lst (us ++ [y]))) = vis (S :: Xs) st1 σ H2 := msk_upd hidS
      have ne : ∀ a, a ≠ S → (upd H2 S (.lst (us ++ [y]))) a = H2 a := fun a h => upd_ne h
      have nX : S ∉ Xs := by
        have nd := p2.rel.nd
        exact fun hm => by
          have nd2 : (S :: Xs).Nodup := (List.nodup_append.mp nd).2.1
          exact (List.nodup_cons.mp nd2).1 hm
      have nO : S ∉ ownd st1 σ := fun hm => by
        have nd := p2.rel.nd
        exact (List.nodup_append.mp nd).2.2 S hm S List.mem_cons_self rfl
      refine ⟨us, hS2, by unfold sizeLine; omega, ⟨p2.rel.len, p2.rel.nd, fun j d hj => ?_, fun j es hj => ?_, p2.rel.xs.setL hS2⟩, ?_, fun x hx => ?_, fun a ha => ?_, w'.fr, us ++ [y], upd_same, ?_⟩
      · rw [ev]; exact p2.rel.pu j d hj
      · obtain ⟨q, vs, q1, q2, q3⟩ := p2.rel.ow j es hj
        have : q ≠ S := fun z => by
          subst z
          exact nO (ownd_mem hj q1)
        exact ⟨q, vs, q1, by rw [ne q this]; exact q2, by rw [ev]; exact q3⟩
      · rw [ev]; exact w'.ex.trans p2.ex
      · have hxS : x ≠ S := fun z => nX (by rw [← z]; exact hx)
        rw [ne x hxS]
        exact (w'.xs x hx).trans (p2.xs x (List.mem_cons_of_mem _ hx))
      · by_cases e : a = S
        · rw [e, upd_same] at ha; cases ha
        · rw [ne a e] at ha
          exact w'.dom a (p2.dom a ha)
      · rw [ev, ← List.take_append_getElem hi]
        exact dpAll_append (dpAll_mono p2.ex hd) (.cons d2 .nil)
    · obtain ⟨us, hu, hd⟩ := w'.lst
      rw [List.take_length] at hd
      have tb : ∀ P ∈ tabs X.K, P ∈ Xs := fun P hP => (p1.rel.xs.tb P hP).1
      obtain ⟨r2, ex2⟩ := rel_show (L := [S]) tb w'.rel
      refine hQ _ H' ⟨r2, p1.ex.trans (w'.ex.trans ex2), fun x hx => (p1.xs x hx).trans (w'.xs x hx), fun a ha => p1.dom a (w'.dom a ha), p1.ol⟩ ⟨?_, fun _ => ⟨S, us, ds, rfl, rfl, p1.dom S w'.fr, hu, hd, w'.rel⟩⟩
      have nS : S ∉ hid Xs st1 σ := fun hm => by
        rcases List.mem_append.mp hm with hm | hm
        · exact (List.nodup_append.mp w'.rel.nd).2.2 S hm S List.mem_cons_self rfl
        · exact (List.nodup_cons.mp (List.nodup_append.mp w'.rel.nd).2.1).1 hm
      exact .lst (by show msk _ H' S = _; rw [msk_out nS]; exact hu) (dpAll_mono ex2 hd)
end
end TX

end

section
set_option Elab.async false
set_option linter.all false
set_option maxRecDepth 100000
set_option maxHeartbeats 2000000
namespace TX
open PySem L2 PyProof.Rows
open PySem.W (Frag)
/-! the law, its script under any name -/
theorem lawTx {l : PySem.W.OpenLaw} {w : World} {K : Frag} {k n : Nat} {mg : Str → Option Value} {fa : Addr} {h : Heap} {fd : FuncData} {cl : Nat → Addr} {φ : EvE} {x : Str} {chk : Frag → Bool} {fn : List He.DefD} (KX : K.In h) (c : SaysT chk fn h K) (hb : ∀ (s : Shared) (u : Value), BindsTo s fd ⟨[u], []⟩ [(x, u)])
    (hrun : ∀ ns : List Int, ns.length ≤ n → (∀ z ∈ ns, Builtin.Int.intBits z ≤ 1048576) → ∃ b st, φ [.pu (.scr ns)] = .ok (.bl true, b) st) (F : ∀ base : Heap, TabsB K base mg → FnOk l.prog w K mg base CX0 k fa fd [x] (sp0 K cl φ)) :
    LamX.LawAtS l w K CX0 k n x mg fa h :=
  ⟨fd, cTs K, sp0 K cl φ, c.empty, fun p hp => (cTs_mem hp).2, fun p hp => PySem.W.codeHd_of_K KX (cTs_mem hp).1, hb, fun H a ns hl hbits hT hS => by
    obtain ⟨b, st, q⟩ := hrun ns hl hbits
    exact law_spT (fun P hP => by
      obtain ⟨p, hp, e⟩ := List.mem_map.mp hP
      rw [← e]
      exact hT p hp) c.nd hS q, fun base _ _ hTB => F base fun p hp => ⟨(hTB p hp).code, (hTB p hp).bm, (hTB p hp).gP⟩⟩
end TX

end

section
set_option Elab.async false
set_option linter.all false
set_option maxRecDepth 100000
set_option maxHeartbeats 2000000
noncomputable section
namespace G
open PySem PySem.Spec PyProof.Rows L2 TX
def d_ZERO : D := .tup [.int 0, .int 1]
def d_ONE : D := .tup [.int 1, .int 1]
def w_ZERO : List He.Dv := [.int 0, .int 1]
def w_ONE : List He.Dv := [.int 1, .int 1]
theorem dq_ZERO {K : PySem.W.Frag} {H : Hp} {a : Addr} (h : SqT K H a (w_ZERO.map (He.Dv.v K))) : Dq K H (.ref a) d_ZERO := .tup h (.cons (.int _) (.cons (.int _) .nil))
theorem dq_ONE {K : PySem.W.Frag} {H : Hp} {a : Addr} (h : SqT K H a (w_ONE.map (He.Dv.v K))) : Dq K H (.ref a) d_ONE := .tup h (.cons (.int _) (.cons (.int _) .nil))
def mt (c k : Nat) : Bool := decide (c = k ∨ k = 0)
def pm_unladder_0_ratio_n : {α : Type} → List α → List α := fun l => match l with | [x0, x1] => [x1, x0] | l => l
def pm_wide_0_far_ratio_n : {α : Type} → List α → List α := fun l => match l with | [x0, x1, x2] => [x2, x1, x0] | l => l
def r_is_whole : EvS := sRet (eAnd (eV1 (fIsi [.int]) 0) (eNot (eV1 (fIsi [.bool]) 0)))
def f_is_whole : EvE := defEv 1 1 [] (r_is_whole)
def r_is_number : EvS := sSeq (sIf (tOr' (tNot' (tOf (eV1 (fIsi [.tuple]) 0))) (tOf (eBin (fEq false) (eV1 fLen 0) (eC (.int 2))))) (sRet (eC (.bl false))) (sSkip)) (sSeq (sUnp [] [1, 2] (eVar 0)) (sRet (eAnd (eCallP (aCons (eVar 1) (aNil)) id f_is_whole) (eAnd (eCallP (aCons (eVar 2) (aNil)) id f_is_whole) (eAnd (eBin fGt (eVar 2) (eC (.int 0))) (eBin (fEq true) (eBin fGcd (eVar 1) (eVar 2)) (eC (.int 1))))))))
def f_is_number : EvE := defEv 3 1 [] (r_is_number)
def r_check_count : EvS := sIf (tOr' (tNot' (tOf (eCallP (aCons (eVar 0) (aNil)) id f_is_whole))) (tOf (eBin fLt (eVar 0) (eC (.int 0))))) (sRaise 1 (eVar 0)) (sSkip)
def f_check_count : EvE := defEv 1 1 [] (r_check_count)
def r_number : EvS := sSeq (sIf (tOf (eBinV (fEq true) 1 (eC (.int 0)))) (sRaise 5 (eVar 0)) (sSkip)) (sSeq (sSet [] 2 (eBin fGcd (eVar 0) (eVar 1))) (sSeq (sIf (tOf (eBin fLt (eVar 1) (eC (.int 0)))) (sSet [] 2 (eUn fNeg (eVar 2))) (sSkip)) (sRet (eTup (aCons (eBin fDiv (eVar 0) (eVar 2)) (aCons (eBin fDiv (eVar 1) (eVar 2)) (aNil)))))))
def f_number : EvE := defEv 3 2 [] (r_number)
def r__check_all : EvS := sForI (putN [] 1) (iSeq (eVar 0)) (sIf (tNot' (tOf (eCallP (aCons (eVar 1) (aNil)) id f_is_number))) (sRaise 1 (eVar 1)) (sSkip))
def f__check_all : EvE := defEv 2 1 [] (r__check_all)
def r_plus : EvS := sSeq (sDrop (eCallP (aCons (eTup (aCons (eVar 0) (aCons (eVar 1) (aNil)))) (aNil)) id f__check_all)) (sRet (eCallP (aCons (eBin fAdd (eBin fMul (eIxV 0 (eC (.int 0))) (eIxV 1 (eC (.int 1)))) (eBin fMul (eIxV 1 (eC (.int 0))) (eIxV 0 (eC (.int 1))))) (aCons (eBin fMul (eIxV 0 (eC (.int 1))) (eIxV 1 (eC (.int 1)))) (aNil))) id f_number))
def f_plus : EvE := defEv 2 2 [] (r_plus)
def r_minus : EvS := sSeq (sDrop (eCallP (aCons (eTup (aCons (eVar 0) (aCons (eVar 1) (aNil)))) (aNil)) id f__check_all)) (sRet (eCallP (aCons (eBin fSub (eBin fMul (eIxV 0 (eC (.int 0))) (eIxV 1 (eC (.int 1)))) (eBin fMul (eIxV 1 (eC (.int 0))) (eIxV 0 (eC (.int 1))))) (aCons (eBin fMul (eIxV 0 (eC (.int 1))) (eIxV 1 (eC (.int 1)))) (aNil))) id f_number))
def f_minus : EvE := defEv 2 2 [] (r_minus)
def r_times : EvS := sSeq (sDrop (eCallP (aCons (eTup (aCons (eVar 0) (aCons (eVar 1) (aNil)))) (aNil)) id f__check_all)) (sRet (eCallP (aCons (eBin fMul (eIxV 0 (eC (.int 0))) (eIxV 1 (eC (.int 0)))) (aCons (eBin fMul (eIxV 0 (eC (.int 1))) (eIxV 1 (eC (.int 1)))) (aNil))) id f_number))
def f_times : EvE := defEv 2 2 [] (r_times)
def r_by : EvS := sSeq (sDrop (eCallP (aCons (eTup (aCons (eVar 0) (aCons (eVar 1) (aNil)))) (aNil)) id f__check_all)) (sSeq (sIf (tOf (eBinV (fEq true) 1 (eC d_ZERO))) (sRaise 5 (eVar 0)) (sSkip)) (sRet (eCallP (aCons (eBin fMul (eIxV 0 (eC (.int 0))) (eIxV 1 (eC (.int 1)))) (aCons (eBin fMul (eIxV 0 (eC (.int 1))) (eIxV 1 (eC (.int 0)))) (aNil))) id f_number)))
def f_by : EvE := defEv 2 2 [] (r_by)
def r_power : EvS := sSeq (sDrop (eCallP (aCons (eTup (aCons (eVar 0) (aNil))) (aNil)) id f__check_all)) (sSeq (sDrop (eCallP (aCons (eVar 1) (aNil)) id f_check_count)) (sSeq (sUnp [] [2, 3] (eC d_ONE)) (sSeq (sForI (putN [] 4) (iRng (eVar 1)) (sSeq (sSet [] 2 (eBin fMul (eVar 2) (eIxV 0 (eC (.int 0))))) (sSet [] 3 (eBin fMul (eVar 3) (eIxV 0 (eC (.int 1))))))) (sRet (eTup (aCons (eVar 2) (aCons (eVar 3) (aNil))))))))
def f_power : EvE := defEv 5 2 [] (r_power)
def r__is_less : EvS := sRet (eBin fLt (eBin fMul (eIxV 0 (eC (.int 0))) (eIxV 1 (eC (.int 1)))) (eBin fMul (eIxV 1 (eC (.int 0))) (eIxV 0 (eC (.int 1)))))
def f__is_less : EvE := defEv 2 2 [] (r__is_less)
def r__check_not_empty : EvS := sSeq (sIf (tOf (eBin (fEq true) (eV1 fLen 0) (eC (.int 0)))) (sRaise 1 (eVar 0)) (sSkip)) (sDrop (eCallP (aCons (eVar 0) (aNil)) id f__check_all))
def f__check_not_empty : EvE := defEv 1 1 [] (r__check_not_empty)
def r_greatest : EvS := sSeq (sDrop (eCallP (aCons (eVar 0) (aNil)) id f__check_not_empty)) (sSeq (sSet [] 1 (eIxV 0 (eC (.int 0)))) (sSeq (sForI (putN [] 2) (iSeq (eVar 0)) (sIf (tOf (eCallP (aCons (eVar 1) (aCons (eVar 2) (aNil))) id f__is_less)) (sSet [] 1 (eVar 2)) (sSkip))) (sRetV [] 1)))
def f_greatest : EvE := defEv 3 1 [] (r_greatest)
def r_total : EvS := sSeq (sDrop (eCallP (aCons (eVar 0) (aNil)) id f__check_all)) (sSeq (sSet [] 1 (eC d_ZERO)) (sSeq (sForI (putN [] 2) (iSeq (eVar 0)) (sSet [] 1 (eCallP (aCons (eBin fAdd (eBin fMul (eIxV 1 (eC (.int 0))) (eIxV 2 (eC (.int 1)))) (eBin fMul (eIxV 2 (eC (.int 0))) (eIxV 1 (eC (.int 1))))) (aCons (eBin fMul (eIxV 1 (eC (.int 1))) (eIxV 2 (eC (.int 1)))) (aNil))) id f_number))) (sRetV [] 1)))
def f_total : EvE := defEv 3 1 [] (r_total)
def r_dot : EvS := sRet (eCallP (aCons (eLc [2, 3] (iZipD (aCons (eVar 0) (aCons (eVar 1) (aNil)))) (putT [] [2, 3]) (tTrue) (eCallP (aCons (eVar 2) (aCons (eVar 3) (aNil))) id f_times)) (aNil)) id f_total)
def f_dot : EvE := defEv 4 2 [] (r_dot)
def r_check_ratio : EvS := sIf (tOr' (tNot' (tOf (eCallP (aCons (eVar 0) (aNil)) id f_is_number))) (tNot' (tOf (eChain fLt fLe (eC (.int 0)) (eIxV 0 (eC (.int 0))) (eIxV 0 (eC (.int 1))))))) (sRaise 3 (eVar 0)) (sSkip)
def f_check_ratio : EvE := defEv 1 1 [] (r_check_ratio)
def r_check_ratio_below_one : EvS := sSeq (sDrop (eCallP (aCons (eVar 1) (aNil)) id f_check_ratio)) (sIf (tAnd' (tOf (eBinV (fEq true) 1 (eC d_ONE))) (tOf (eBin fGt (eVar 0) (eC (.int 0))))) (sRaise 3 (eVar 1)) (sSkip))
def f_check_ratio_below_one : EvE := defEv 2 2 [] (r_check_ratio_below_one)
def r__step : EvS := sSeq (sIf (tOf (eBinV (fEq true) 0 (eC (.int 0)))) (sRet (eC d_ONE)) (sSkip)) (sSeq (sSet [] 4 (eIf (tOf (eBin (fIn true) (eVar 3) (eTup (aCons (eC (.int 0)) (aCons (eVar 0) (aNil)))))) (eC d_ONE) (eCallP (aCons (eC d_ONE) (aCons (eVar 1) (aNil))) id f_minus))) (sRet (eCallP (aCons (eCallP (aCons (eVar 4) (aCons (eCallP (aCons (eVar 1) (aCons (eUn fAbs (eBin fSub (eVar 3) (eVar 2))) (aNil))) id f_power) (aNil))) id f_times) (aCons (eCallP (aCons (eC d_ONE) (aCons (eVar 1) (aNil))) id f_plus) (aNil))) id f_by)))
def f__step : EvE := defEv 5 4 [] (r__step)
def r__row : EvS := sRet (eUn fTuple (eLc [3] (iRng (eBin fAdd (eVar 0) (eC (.int 1)))) (putN [] 3) (tTrue) (eCallP (aCons (eVar 0) (aCons (eVar 1) (aCons (eVar 2) (aCons (eVar 3) (aNil))))) id f__step)))
def f__row : EvE := defEv 4 3 [] (r__row)
def r_ladder : EvS := sSeq (sDrop (eCallP (aCons (eVar 0) (aNil)) id f_check_count)) (sSeq (sDrop (eCallP (aCons (eVar 1) (aNil)) id f_check_ratio)) (sRet (eUn fTuple (eLc [2] (iRng (eBin fAdd (eVar 0) (eC (.int 1)))) (putN [] 2) (tTrue) (eCallP (aCons (eVar 0) (aCons (eVar 1) (aCons (eVar 2) (aNil)))) id f__row)))))
def f_ladder : EvE := defEv 3 2 [] (r_ladder)
def r__inverse_row : EvS := sSeq (sSet [] 3 (eCallP (aCons (eC d_ONE) (aCons (eVar 1) (aNil))) id f_minus)) (sSeq (sSet [] 4 (eBin (fIn true) (eVar 2) (eTup (aCons (eC (.int 0)) (aCons (eVar 0) (aNil)))))) (sSeq (sSet [] 5 (eIf (tOf (eVar 4)) (eC d_ONE) (eCallP (aCons (eC d_ONE) (aCons (eCallP (aCons (eVar 1) (aCons (eVar 1) (aNil))) id f_times) (aNil))) id f_plus))) (sSeq (sSet [] 6 (eIf (tOf (eVar 4)) (eVar 3) (eCallP (aCons (eVar 3) (aCons (eVar 3) (aNil))) id f_times))) (sSeq (sSet [] 7 (eBin fMul (eLst (aCons (eC d_ZERO) (aNil))) (eBin fAdd (eVar 0) (eC (.int 1))))) (sSeq (sForI (putN [] 8) (iRngB (eBin fMax2 (eC (.int 0)) (eBin fSub (eVar 2) (eC (.int 1)))) (eBin fAdd (eBin fMin2 (eVar 0) (eBin fAdd (eVar 2) (eC (.int 1)))) (eC (.int 1)))) (sItem 7 (eVar 8) (eCallP (aCons (eIf (tOf (eBinV (fEq true) 8 (eVar 2))) (eVar 5) (eCallP (aCons (eC d_ZERO) (aCons (eVar 1) (aNil))) id f_minus)) (aCons (eVar 6) (aNil))) id f_by))) (sRet (eV1 fTuple 7)))))))
def f__inverse_row : EvE := defEv 9 3 [] (r__inverse_row)
def r_unladder : EvS := sSeq (sDrop (eCallP (aCons (eVar 0) (aNil)) id f_check_count)) (sSeq (sDrop (eCallP (aCons (eVar 0) (aCons (eVar 1) (aNil))) id f_check_ratio_below_one)) (sSeq (sIf (tOf (eBinV (fEq true) 0 (eC (.int 0)))) (sRet (eTup (aCons (eTup (aCons (eC d_ONE) (aNil))) (aNil)))) (sSkip)) (sRet (eUn fTuple (eLc [2] (iRng (eBin fAdd (eVar 0) (eC (.int 1)))) (putN [] 2) (tTrue) (eCallP (aCons (eVar 0) (aCons (eVar 1) (aCons (eVar 2) (aNil)))) id f__inverse_row))))))
def f_unladder : EvE := defEv 3 2 [] (r_unladder)
def r__chance_far_off : EvS := sRet (eCallP (aCons (eLc [3, 4] (iEnumD (eVar 0)) (putT [] [3, 4]) (tOf (eBin fGe (eUn fAbs (eBin fSub (eVar 3) (eVar 1))) (eVar 2))) (eVar 4)) (aNil)) id f_total)
def f__chance_far_off : EvE := defEv 5 3 [] (r__chance_far_off)
def r_wide : EvS := sSeq (sDrop (eCallP (aCons (eVar 0) (aNil)) id f_check_count)) (sSeq (sDrop (eCallP (aCons (eVar 1) (aNil)) id f_check_ratio)) (sSeq (sDrop (eCallP (aCons (eVar 2) (aNil)) id f_check_count)) (sRet (eCallP (aCons (eLc [3] (iRng (eBin fAdd (eVar 0) (eC (.int 1)))) (putN [] 3) (tTrue) (eCallP (aCons (eCallP (aCons (eVar 0) (aCons (eVar 1) (aCons (eVar 3) (aNil)))) id f__row) (aCons (eVar 3) (aCons (eVar 2) (aNil)))) id f__chance_far_off)) (aNil)) id f_greatest))))
def f_wide : EvE := defEv 4 3 [] (r_wide)
def r_is_chance : EvS := sRet (eAnd (eCallP (aCons (eVar 0) (aNil)) id f_is_number) (eBin fGe (eIxV 0 (eC (.int 0))) (eC (.int 0))))
def f_is_chance : EvE := defEv 1 1 [] (r_is_chance)
def r_is_row : EvS := sSeq (sIf (tOr' (tNot' (tOf (eV1 (fIsi [.tuple]) 0))) (tNot' (tOf (eAll true [1] (iSeq (eVar 0)) (putN [] 1) (tTrue) (eCallP (aCons (eVar 1) (aNil)) id f_is_chance))))) (sRet (eC (.bl false))) (sSkip)) (sRet (eBin (fEq true) (eCallP (aCons (eVar 0) (aNil)) id f_total) (eC d_ONE)))
def f_is_row : EvE := defEv 2 1 [] (r_is_row)
def r_is_scheme : EvS := sSeq (sIf (tOr' (tNot' (tOf (eV1 (fIsi [.tuple]) 0))) (tNot' (tOf (eAll true [1] (iSeq (eVar 0)) (putN [] 1) (tTrue) (eCallP (aCons (eVar 1) (aNil)) id f_is_row))))) (sRet (eC (.bl false))) (sSkip)) (sRet (eAnd (eBin fGt (eV1 fLen 0) (eC (.int 0))) (eAll true [1] (iSeq (eVar 0)) (putN [] 1) (tTrue) (eBin (fEq true) (eV1 fLen 1) (eUn fLen (eIxV 0 (eC (.int 0))))))))
def f_is_scheme : EvE := defEv 2 1 [] (r_is_scheme)
def r_check_scheme : EvS := sIf (tNot' (tOf (eCallP (aCons (eVar 0) (aNil)) id f_is_scheme))) (sRaise 2 (eVar 0)) (sSkip)
def f_check_scheme : EvE := defEv 1 1 [] (r_check_scheme)
def r_read_by : EvS := sSeq (sDrop (eCallP (aCons (eVar 0) (aNil)) id f_check_scheme)) (sSeq (sDrop (eCallP (aCons (eVar 1) (aNil)) id f_check_scheme)) (sSeq (sSet [] 2 (eUn fLen (eIxV 0 (eC (.int 0))))) (sSeq (sIf (tOf (eBinV (fEq false) 2 (eV1 fLen 1))) (sRaise 4 (eTup (aCons (eVar 2) (aCons (eV1 fLen 1) (aNil))))) (sSkip)) (sSeq (sSet [] 3 (eListI (iZipT (eVar 1)))) (sRet (eUn fTuple (eLc [4] (iSeq (eVar 0)) (putN [] 4) (tTrue) (eUn fTuple (eLc [5] (iSeq (eVar 3)) (putN [] 5) (tTrue) (eCallP (aCons (eVar 4) (aCons (eVar 5) (aNil))) id f_dot))))))))))
def f_read_by : EvE := defEv 6 2 [] (r_read_by)
def r__law_deck : EvS := sSeq (sSet [] 2 (eC (.int 0))) (sSeq (sIf (tOf (eBin fLt (eVar 1) (eV1 fLen 0))) (sSet [] 2 (eIxV 0 (eVar 1))) (sSkip)) (sSeq (sSet [] 3 (eBin fMod (eUn fInt (eBin fAdd (eBin fAdd (eVar 2) (eBin fMul (eC (.int 7919)) (eVar 1))) (eC (.int 104729)))) (eC (.int 2305843009213693951)))) (sSeq (sSet [] 3 (eBin fMod (eUn fInt (eBin fAdd (eBin fAdd (eBin fMul (eBin fMul (eVar 3) (eVar 3)) (eVar 3)) (eBin fMul (eC (.int 31)) (eVar 1))) (eC (.int 7)))) (eC (.int 2305843009213693951)))) (sSeq (sIf (tOf (eBin fLt (eVar 2) (eBin fPow (eC (.int 10)) (eC (.int 18))))) (sRet (eLst (aCons (eC (.int 0)) (aCons (eVar 3) (aNil))))) (sSkip)) (sRet (eLst (aCons (eBin fSub (eVar 2) (eBin fPow (eC (.int 10)) (eC (.int 18)))) (aCons (eVar 3) (aNil)))))))))
def f__law_deck : EvE := defEv 4 2 [] (r__law_deck)
def r__law_take : EvS := sSeq (sIf (tOf (eBin fGt (eIxV 0 (eC (.int 0))) (eC (.int 0)))) (sSeq (sSet [0] 2 (eBin fMod (eUn fInt (eIxV 0 (eC (.int 0)))) (eVar 1))) (sSeq (sItem 0 (eC (.int 0)) (eBin fDiv (eIxV 0 (eC (.int 0))) (eVar 1))) (sRetV [0] 2))) (sSkip)) (sSeq (sItem 0 (eC (.int 1)) (eBin fMod (eUn fInt (eBin fAdd (eBin fMul (eIxV 0 (eC (.int 1))) (eC (.int 6364136223846793005))) (eC (.int 1442695040888963407)))) (eBin fPow (eC (.int 2)) (eC (.int 64))))) (sRet (eBin fMod (eBin fDiv (eIxV 0 (eC (.int 1))) (eBin fPow (eC (.int 2)) (eC (.int 33)))) (eVar 1))))
def f__law_take : EvE := defEv 3 2 [0] (r__law_take)
def r__law_gcd : EvS := sSeq (sWh (tOf (eBinV (fEq false) 1 (eC (.int 0)))) (sPar [] 0 1 (aCons (eVar 1) (aCons (eBin fMod (eV1 fInt 0) (eVar 1)) (aNil))))) (sRetV [] 0)
def f__law_gcd : EvE := defEv 2 2 [] (r__law_gcd)
def r__law_pair : EvS := sSeq (sSet [] 2 (eCallP (aCons (eV1 fAbs 0) (aCons (eV1 fAbs 1) (aNil))) id f__law_gcd)) (sSeq (sIf (tOf (eBin fLt (eVar 1) (eC (.int 0)))) (sSet [] 2 (eUn fNeg (eVar 2))) (sSkip)) (sRet (eTup (aCons (eBin fDiv (eVar 0) (eVar 2)) (aCons (eBin fDiv (eVar 1) (eVar 2)) (aNil))))))
def f__law_pair : EvE := defEv 3 2 [] (r__law_pair)
def r__law_plus : EvS := sRet (eCallP (aCons (eBin fAdd (eBin fMul (eIxV 0 (eC (.int 0))) (eIxV 1 (eC (.int 1)))) (eBin fMul (eIxV 1 (eC (.int 0))) (eIxV 0 (eC (.int 1))))) (aCons (eBin fMul (eIxV 0 (eC (.int 1))) (eIxV 1 (eC (.int 1)))) (aNil))) id f__law_pair)
def f__law_plus : EvE := defEv 2 2 [] (r__law_plus)
def r__law_times : EvS := sRet (eCallP (aCons (eBin fMul (eIxV 0 (eC (.int 0))) (eIxV 1 (eC (.int 0)))) (aCons (eBin fMul (eIxV 0 (eC (.int 1))) (eIxV 1 (eC (.int 1)))) (aNil))) id f__law_pair)
def f__law_times : EvE := defEv 2 2 [] (r__law_times)
def r__law_less : EvS := sRet (eBin fLt (eBin fSub (eBin fMul (eIxV 0 (eC (.int 0))) (eIxV 1 (eC (.int 1)))) (eBin fMul (eIxV 1 (eC (.int 0))) (eIxV 0 (eC (.int 1))))) (eC (.int 0)))
def f__law_less : EvE := defEv 2 2 [] (r__law_less)
def r__law_same (me : EvE) : EvS := sSeq (sIf (tOf (eV1 (fIsi [.tuple, .list]) 1)) (sSeq (sIf (tOr' (tOf (eBin (fEq false) (eV1 (fIsi [.tuple]) 0) (eV1 (fIsi [.tuple]) 1))) (tOf (eBin (fEq false) (eV1 (fIsi [.list]) 0) (eV1 (fIsi [.list]) 1)))) (sRet (eC (.bl false))) (sSkip)) (sSeq (sIf (tOf (eBin (fEq false) (eV1 fLen 0) (eV1 fLen 1))) (sRet (eC (.bl false))) (sSkip)) (sRet (eBin (fEq true) (eLc [2] (iRng (eV1 fLen 1)) (putN [] 2) (tNot' (tOf (eCallP (aCons (eIxV 0 (eVar 2)) (aCons (eIxV 1 (eVar 2)) (aNil))) id me))) (eVar 2)) (eLst (aNil)))))) (sSkip)) (sSeq (sIf (tOf (eBin (fIs true) (eVar 1) (eC .non))) (sRet (eBin (fIs true) (eVar 0) (eC .non))) (sSkip)) (sSeq (sIf (tOf (eV1 (fIsi [.str]) 1)) (sRet (eAnd (eV1 (fIsi [.str]) 0) (eBinV (fEq true) 0 (eVar 1)))) (sSkip)) (sSeq (sIf (tOr' (tOf (eV1 (fIsi [.bool]) 1)) (tOf (eV1 (fIsi [.bool]) 0))) (sRet (eAnd (eV1 (fIsi [.bool]) 1) (eAnd (eV1 (fIsi [.bool]) 0) (eBinV (fEq true) 0 (eVar 1))))) (sSkip)) (sRet (eAnd (eV1 (fIsi [.int]) 0) (eBinV (fEq true) 0 (eVar 1)))))))
def f__law_same : Nat → EvE
  | 0 => fun _ => .no
  | k + 1 => defEv 3 2 [] (r__law_same (f__law_same k))
def r__law_weights : EvS := sSeq (sUnp [0] [2, 3] (eTup (aCons (eBin fIx (eLst (aCons (eC (.int 2)) (aCons (eC (.int 6)) (aCons (eC (.int 10)) (aCons (eBin fPow (eC (.int 10)) (eC (.int 6))) (aNil)))))) (eCallA (.io 0 :: .v (eC (.int 4)) :: []) f__law_take)) (aCons (eCallA (.io 0 :: .v (eC (.int 3)) :: []) f__law_take) (aNil))))) (sSeq (sSet [0] 4 (eLc [6] (iRng (eVar 1)) (putN [] 6) (tTrue) (eBin fAdd (eCallA (.io 0 :: .v (eVar 2) :: []) f__law_take) (eUn fInt (eBin fGt (eVar 3) (eC (.int 0))))))) (sSeq (sIf (tAnd' (tOf (eBinV (fEq true) 3 (eC (.int 2)))) (tOf (eBin fGt (eVar 1) (eC (.int 1))))) (sItem 4 (eCallA (.io 0 :: .v (eVar 1) :: []) f__law_take) (eC (.int 0))) (sSkip)) (sSeq (sSet [0] 5 (eCallA (.io 0 :: .v (eVar 1) :: []) f__law_take)) (sSeq (sIf (tOf (eBin (fEq true) (eV1 fSum 4) (eC (.int 0)))) (sItem 4 (eVar 5) (eBin fAdd (eC (.int 1)) (eCallA (.io 0 :: .v (eC (.int 9)) :: []) f__law_take))) (sSkip)) (sRetV [0] 4)))))
def f__law_weights : EvE := defEv 7 2 [0] (r__law_weights)
def r__law_shares : EvS := sSeq (sSet [] 1 (eV1 fSum 0)) (sRet (eUn fTuple (eLc [2] (iSeq (eVar 0)) (putN [] 2) (tTrue) (eCallP (aCons (eVar 2) (aCons (eVar 1) (aNil))) id f__law_pair))))
def f__law_shares : EvE := defEv 3 1 [] (r__law_shares)
def r__law_ratio : EvS := sSeq (sSet [0] 1 (eBin fAdd (eC (.int 2)) (eCallA (.io 0 :: .v (eC (.int 98)) :: []) f__law_take))) (sSeq (sSet [0] 2 (eBin fAdd (eC (.int 2)) (eCallA (.io 0 :: .v (eC (.int 99999997)) :: []) f__law_take))) (sSeq (sSet [0] 3 (eLst (aCons (eTup (aCons (eBin fAdd (eC (.int 1)) (eCallA (.io 0 :: .v (eBin fSub (eVar 1) (eC (.int 1))) :: []) f__law_take)) (aCons (eVar 1) (aNil)))) (aCons (eTup (aCons (eC (.int 1)) (aCons (eVar 2) (aNil)))) (aCons (eTup (aCons (eVar 2) (aCons (eBin fAdd (eVar 2) (eC (.int 1))) (aNil)))) (aCons (eTup (aCons (eC (.int 1)) (aCons (eC (.int 2)) (aNil)))) (aCons (eTup (aCons (eBin fAdd (eC (.int 1)) (eCallA (.io 0 :: .v (eBin fSub (eVar 2) (eC (.int 1))) :: []) f__law_take)) (aCons (eVar 2) (aNil)))) (aNil)))))))) (sSeq (sUnp [0] [4, 1] (eIxV 3 (eCallA (.io 0 :: .v (eC (.int 5)) :: []) f__law_take))) (sRet (eCallP (aCons (eVar 4) (aCons (eVar 1) (aNil))) id f__law_pair)))))
def f__law_ratio : EvE := defEv 5 1 [0] (r__law_ratio)
def r__law_product : EvS := sSeq (sSet [] 2 (eLst (aNil))) (sSeq (sForI (putN [] 3) (iSeq (eVar 0)) (sSeq (sSet [] 4 (eLst (aNil))) (sSeq (sForI (putN [] 5) (iRng (eUn fLen (eIxV 1 (eC (.int 0))))) (sSeq (sSet [] 6 (eTup (aCons (eC (.int 0)) (aCons (eC (.int 1)) (aNil))))) (sSeq (sForI (putN [] 7) (iRng (eV1 fLen 3)) (sIf (tAnd' (tOf (eBin (fEq false) (eBin fIx (eIxV 3 (eVar 7)) (eC (.int 0))) (eC (.int 0)))) (tOf (eBin (fEq false) (eBin fIx (eBin fIx (eIxV 1 (eVar 7)) (eVar 5)) (eC (.int 0))) (eC (.int 0))))) (sSet [] 6 (eCallP (aCons (eVar 6) (aCons (eCallP (aCons (eIxV 3 (eVar 7)) (aCons (eBin fIx (eIxV 1 (eVar 7)) (eVar 5)) (aNil))) id f__law_times) (aNil))) id f__law_plus)) (sSkip))) (sApp 4 (eVar 6))))) (sApp 2 (eV1 fTuple 4))))) (sRet (eV1 fTuple 2)))
def f__law_product : EvE := defEv 8 2 [] (r__law_product)
def r__law_lowest : EvS := sSeq (sSet [] 1 (eLc [2] (iSeq (eVar 0)) (putN [] 2) (tOr' (tNot' (tOf (eV1 (fIsi [.int]) 2))) (tOf (eV1 (fIsi [.bool]) 2))) (eVar 2))) (sRet (eIf (tOr' (tOf (eBinV (fEq false) 1 (eLst (aNil)))) (tOf (eBin (fEq true) (eIxV 0 (eC (.int 1))) (eC (.int 0))))) (eTup (aNil)) (eCallP (aCons (eIxV 0 (eC (.int 0))) (aCons (eIxV 0 (eC (.int 1))) (aNil))) id f__law_pair)))
def f__law_lowest : EvE := defEv 3 1 [] (r__law_lowest)
def r__law_are_numbers : EvS := sSeq (sIf (tOr' (tNot' (tOf (eV1 (fIsi [.tuple]) 0))) (tOf (eBin (fEq false) (eV1 fLen 0) (eVar 1)))) (sRet (eC (.bl false))) (sSkip)) (sSeq (sForI (putN [] 2) (iSeq (eVar 0)) (sSeq (sIf (tOr' (tNot' (tOf (eV1 (fIsi [.tuple]) 2))) (tOf (eBin (fEq false) (eV1 fLen 2) (eVar 1)))) (sRet (eC (.bl false))) (sSkip)) (sForI (putN [] 3) (iSeq (eVar 2)) (sIf (tOr' (tNot' (tOf (eV1 (fIsi [.tuple]) 3))) (tOr' (tOf (eBin (fEq false) (eV1 fLen 3) (eC (.int 2)))) (tNot' (tOf (eCallP (aCons (eVar 3) (aCons (eCallP (aCons (eVar 3) (aNil)) id f__law_lowest) (aNil))) id (f__law_same 8)))))) (sRet (eC (.bl false))) (sSkip))))) (sRet (eC (.bl true))))
def f__law_are_numbers : EvE := defEv 4 2 [] (r__law_are_numbers)
def r__law_unit : EvS := sRet (eUn fTuple (eLc [2] (iRng (eBin fAdd (eVar 0) (eC (.int 1)))) (putN [] 2) (tTrue) (eTup (aCons (eUn fInt (eBinV (fEq true) 1 (eVar 2))) (aCons (eC (.int 1)) (aNil))))))
def f__law_unit : EvE := defEv 3 2 [] (r__law_unit)
def r__law_wide : EvS := sSeq (sSet [] 2 (eTup (aCons (eC (.int 0)) (aCons (eC (.int 1)) (aNil))))) (sSeq (sForI (putN [] 3) (iRng (eV1 fLen 0)) (sSeq (sSet [] 4 (eTup (aCons (eC (.int 0)) (aCons (eC (.int 1)) (aNil))))) (sSeq (sForI (putN [] 5) (iRng (eV1 fLen 0)) (sIf (tOf (eBin fGe (eUn fAbs (eBin fSub (eVar 5) (eVar 3))) (eVar 1))) (sSet [] 4 (eCallP (aCons (eVar 4) (aCons (eBin fIx (eIxV 0 (eVar 3)) (eVar 5)) (aNil))) id f__law_plus)) (sSkip))) (sIf (tOf (eCallP (aCons (eVar 2) (aCons (eVar 4) (aNil))) id f__law_less)) (sSet [] 2 (eVar 4)) (sSkip))))) (sRetV [] 2))
def f__law_wide : EvE := defEv 6 2 [] (r__law_wide)
def r__law_right : EvS := sSeq (sUnp [0] [1, 2] (eTup (aCons (eCallA (.io 0 :: .v (eC (.int 10)) :: []) f__law_take) (aCons (eCallA (.io 0 :: []) f__law_ratio) (aNil))))) (sSeq (sIf (tAnd' (tOf (eBinV (fEq true) 1 (eC (.int 0)))) (tOf (eBin (fEq true) (eCallA (.io 0 :: .v (eC (.int 2)) :: []) f__law_take) (eC (.int 0))))) (sSet [0] 2 (eTup (aCons (eC (.int 1)) (aCons (eC (.int 1)) (aNil))))) (sSkip)) (sSeq (sPar [0] 3 4 (aCons (eCallP (aCons (eVar 1) (aCons (eVar 2) (aNil))) id f_ladder) (aCons (eCallP (aCons (eVar 1) (aCons (eVar 2) (aNil))) id f_unladder) (aNil)))) (sSeq (sIf (tOr' (tNot' (tOf (eCallP (aCons (eCallK aNil (aCons (eVar 2) (aCons (eVar 1) (aNil))) 2 0 pm_unladder_0_ratio_n f_unladder) (aCons (eVar 4) (aNil))) id (f__law_same 8)))) (tNot' (tOf (eCallP (aCons (eVar 4) (aCons (eBin fAdd (eVar 1) (eC (.int 1))) (aNil))) id f__law_are_numbers)))) (sRet (eC (.bl false))) (sSkip)) (sSeq (sSet [0] 5 (eUn fTuple (eLc [11] (iRng (eBin fAdd (eVar 1) (eC (.int 1)))) (putN [] 11) (tTrue) (eCallP (aCons (eVar 1) (aCons (eVar 11) (aNil))) id f__law_unit)))) (sSeq (sIf (tNot' (tOf (eCallP (aCons (eLst (aCons (eCallP (aCons (eVar 3) (aCons (eVar 4) (aNil))) id f__law_product) (aCons (eCallP (aCons (eVar 4) (aCons (eVar 3) (aNil))) id f__law_product) (aNil)))) (aCons (eLst (aCons (eVar 5) (aCons (eVar 5) (aNil)))) (aNil))) id (f__law_same 8)))) (sRet (eC (.bl false))) (sSkip)) (sSeq (sSet [0] 6 (eBin fAdd (eC (.int 1)) (eCallA (.io 0 :: .v (eC (.int 3)) :: []) f__law_take))) (sSeq (sSet [0] 7 (eUn fTuple (eLc [12] (iRng (eBin fAdd (eVar 1) (eC (.int 1)))) (putN [] 12) (tTrue) (eCallP (aCons (eCallA (.io 0 :: .v (eVar 6) :: []) f__law_weights) (aNil)) id f__law_shares)))) (sSeq (sIf (tNot' (tOf (eCallP (aCons (eCallP (aCons (eVar 4) (aCons (eCallP (aCons (eVar 3) (aCons (eVar 7) (aNil))) id f_read_by) (aNil))) id f__law_product) (aCons (eVar 7) (aNil))) id (f__law_same 8)))) (sRet (eC (.bl false))) (sSkip)) (sSeq (sSet [0] 8 (eCallA (.io 0 :: .v (eBin fAdd (eVar 1) (eC (.int 3))) :: []) f__law_take)) (sSeq (sPar [0] 9 10 (aCons (eCallP (aCons (eVar 3) (aCons (eVar 8) (aNil))) id f__law_wide) (aCons (eCallP (aCons (eVar 3) (aCons (eBin fAdd (eVar 8) (eC (.int 1))) (aNil))) id f__law_wide) (aNil)))) (sSeq (sIf (tOr' (tNot' (tOf (eCallP (aCons (eLst (aCons (eCallP (aCons (eVar 1) (aCons (eVar 2) (aCons (eVar 8) (aNil)))) id f_wide) (aCons (eCallK aNil (aCons (eVar 8) (aCons (eVar 2) (aCons (eVar 1) (aNil)))) 3 0 pm_wide_0_far_ratio_n f_wide) (aNil)))) (aCons (eLst (aCons (eVar 9) (aCons (eVar 9) (aNil)))) (aNil))) id (f__law_same 8)))) (tOf (eCallP (aCons (eVar 9) (aCons (eVar 10) (aNil))) id f__law_less))) (sRet (eC (.bl false))) (sSkip)) (sSeq (sSet [0] 9 (eCallP (aCons (eCallP (aCons (eVar 1) (aCons (eTup (aCons (eC (.int 1)) (aCons (eC (.int 1)) (aNil)))) (aNil))) id f_ladder) (aCons (eVar 8) (aNil))) id f__law_wide)) (sSeq (sIf (tNot' (tOf (eCallP (aCons (eLst (aCons (eCallP (aCons (eVar 1) (aCons (eTup (aCons (eC (.int 1)) (aCons (eC (.int 1)) (aNil)))) (aCons (eVar 8) (aNil)))) id f_wide) (aCons (eCallK aNil (aCons (eVar 8) (aCons (eTup (aCons (eC (.int 1)) (aCons (eC (.int 1)) (aNil)))) (aCons (eVar 1) (aNil)))) 3 0 pm_wide_0_far_ratio_n f_wide) (aNil)))) (aCons (eLst (aCons (eVar 9) (aCons (eVar 9) (aNil)))) (aNil))) id (f__law_same 8)))) (sRet (eC (.bl false))) (sSkip)) (sRet (eCallP (aCons (eLst (aCons (eCallP (aCons (eVar 1) (aCons (eVar 2) (aCons (eC (.int 0)) (aNil)))) id f_wide) (aCons (eCallP (aCons (eVar 1) (aCons (eVar 2) (aCons (eBin fAdd (eVar 1) (eC (.int 1))) (aNil)))) id f_wide) (aNil)))) (aCons (eLst (aCons (eTup (aCons (eC (.int 1)) (aCons (eC (.int 1)) (aNil)))) (aCons (eTup (aCons (eC (.int 0)) (aCons (eC (.int 1)) (aNil)))) (aNil)))) (aNil))) id (f__law_same 8))))))))))))))))
def f__law_right : EvE := defEv 13 1 [0] (r__law_right)
def r_law : EvS := sSeq (sForI (putN [] 1) (iRng (eBin fMax2 (eC (.int 3)) (eBin fMin2 (eV1 fLen 0) (eC (.int 8))))) (sIf (tNot' (tOf (eCallA (.tmp (eCallP (aCons (eVar 0) (aCons (eVar 1) (aNil))) id f__law_deck) :: []) f__law_right))) (sRet (eC (.bl false))) (sSkip))) (sRet (eC (.bl true)))
def f_law : EvE := defEv 2 1 [] (r_law)
end G
end

end

section
set_option Elab.async false
set_option linter.all false
set_option maxRecDepth 100000
set_option maxHeartbeats 2000000
noncomputable section
namespace G
open PySem PySem.Spec PyProof.Rows L2 TX
/-! ### the text -/
def top (i : Nat) : Stmt := PySem.Challenge.pw_oneservesall_k09_whole_ladders_undone_an.main.body.getD i (.Pass ⟨0, 0, 0, 0⟩)
abbrev s_is_whole : Stmt := top 11
abbrev s_is_number : Stmt := top 12
abbrev s_check_count : Stmt := top 13
abbrev s_number : Stmt := top 14
abbrev s_plus : Stmt := top 15
abbrev s_minus : Stmt := top 16
abbrev s_times : Stmt := top 17
abbrev s_by : Stmt := top 18
abbrev s_power : Stmt := top 19
abbrev s_greatest : Stmt := top 20
abbrev s_total : Stmt := top 21
abbrev s_dot : Stmt := top 22
abbrev s__is_less : Stmt := top 23
abbrev s__check_all : Stmt := top 24
abbrev s__check_not_empty : Stmt := top 25
abbrev s_check_ratio : Stmt := top 27
abbrev s_check_ratio_below_one : Stmt := top 28
abbrev s_ladder : Stmt := top 29
abbrev s_unladder : Stmt := top 30
abbrev s_wide : Stmt := top 31
abbrev s__row : Stmt := top 32
abbrev s__step : Stmt := top 33
abbrev s__inverse_row : Stmt := top 34
abbrev s__chance_far_off : Stmt := top 35
abbrev s_is_chance : Stmt := top 37
abbrev s_is_row : Stmt := top 39
abbrev s_is_scheme : Stmt := top 40
abbrev s_check_scheme : Stmt := top 41
abbrev s_read_by : Stmt := top 42
abbrev s__law_deck : Stmt := top 44
abbrev s__law_take : Stmt := top 45
abbrev s__law_gcd : Stmt := top 46
abbrev s__law_pair : Stmt := top 47
abbrev s__law_plus : Stmt := top 48
abbrev s__law_times : Stmt := top 49
abbrev s__law_less : Stmt := top 50
abbrev s__law_same : Stmt := top 51
abbrev s__law_weights : Stmt := top 52
abbrev s__law_shares : Stmt := top 53
abbrev s__law_ratio : Stmt := top 54
abbrev s__law_product : Stmt := top 55
abbrev s__law_are_numbers : Stmt := top 56
abbrev s__law_lowest : Stmt := top 57
abbrev s__law_unit : Stmt := top 58
abbrev s__law_wide : Stmt := top 59
abbrev s__law_right : Stmt := top 60
abbrev s_law : Stmt := top 61
/-! ### what the head gives -/
structure En (K : PySem.W.Frag) (mg : Str → Option Value) where
  cl : Nat → Addr
  fI : Addr
  c_TellError : mg "TellError" = some (.ref (cl 0))
  T_TellError : PySem.TellX.TellTxt K (cl 0) fI
  c_InvalidNumber : mg "InvalidNumber" = some (.ref (cl 1))
  T_InvalidNumber : PySem.TellX.TellTxt K (cl 1) fI
  c_InvalidScheme : mg "InvalidScheme" = some (.ref (cl 2))
  T_InvalidScheme : PySem.TellX.TellTxt K (cl 2) fI
  c_InvalidRatio : mg "InvalidRatio" = some (.ref (cl 3))
  T_InvalidRatio : PySem.TellX.TellTxt K (cl 3) fI
  c_InvalidPair : mg "InvalidPair" = some (.ref (cl 4))
  T_InvalidPair : PySem.TellX.TellTxt K (cl 4) fI
  c_DividedByZero : mg "DividedByZero" = some (.ref (cl 5))
  T_DividedByZero : PySem.TellX.TellTxt K (cl 5) fI
  EK : ErrK K cl mt 6
  a_is_whole : Addr
  fd_is_whole : FuncData
  F_is_whole : FunD K "is_whole" "is_whole" (defArgs s_is_whole) (defBody s_is_whole) (defScope s_is_whole) [] [] a_is_whole fd_is_whole
  g_is_whole : mg "is_whole" = some (.ref a_is_whole)
  a_is_number : Addr
  fd_is_number : FuncData
  F_is_number : FunD K "is_number" "is_number" (defArgs s_is_number) (defBody s_is_number) (defScope s_is_number) [] [] a_is_number fd_is_number
  g_is_number : mg "is_number" = some (.ref a_is_number)
  a_check_count : Addr
  fd_check_count : FuncData
  F_check_count : FunD K "check_count" "check_count" (defArgs s_check_count) (defBody s_check_count) (defScope s_check_count) [] [] a_check_count fd_check_count
  g_check_count : mg "check_count" = some (.ref a_check_count)
  a_number : Addr
  fd_number : FuncData
  F_number : FunD K "number" "number" (defArgs s_number) (defBody s_number) (defScope s_number) [] [] a_number fd_number
  g_number : mg "number" = some (.ref a_number)
  a_plus : Addr
  fd_plus : FuncData
  F_plus : FunD K "plus" "plus" (defArgs s_plus) (defBody s_plus) (defScope s_plus) [] [] a_plus fd_plus
  g_plus : mg "plus" = some (.ref a_plus)
  a_minus : Addr
  fd_minus : FuncData
  F_minus : FunD K "minus" "minus" (defArgs s_minus) (defBody s_minus) (defScope s_minus) [] [] a_minus fd_minus
  g_minus : mg "minus" = some (.ref a_minus)
  a_times : Addr
  fd_times : FuncData
  F_times : FunD K "times" "times" (defArgs s_times) (defBody s_times) (defScope s_times) [] [] a_times fd_times
  g_times : mg "times" = some (.ref a_times)
  a_by : Addr
  fd_by : FuncData
  F_by : FunD K "by" "by" (defArgs s_by) (defBody s_by) (defScope s_by) [] [] a_by fd_by
  g_by : mg "by" = some (.ref a_by)
  a_power : Addr
  fd_power : FuncData
  F_power : FunD K "power" "power" (defArgs s_power) (defBody s_power) (defScope s_power) [] [] a_power fd_power
  g_power : mg "power" = some (.ref a_power)
  a_greatest : Addr
  fd_greatest : FuncData
  F_greatest : FunD K "greatest" "greatest" (defArgs s_greatest) (defBody s_greatest) (defScope s_greatest) [] [] a_greatest fd_greatest
  g_greatest : mg "greatest" = some (.ref a_greatest)
  a_total : Addr
  fd_total : FuncData
  F_total : FunD K "total" "total" (defArgs s_total) (defBody s_total) (defScope s_total) [] [] a_total fd_total
  g_total : mg "total" = some (.ref a_total)
  a_dot : Addr
  fd_dot : FuncData
  F_dot : FunD K "dot" "dot" (defArgs s_dot) (defBody s_dot) (defScope s_dot) [] [] a_dot fd_dot
  g_dot : mg "dot" = some (.ref a_dot)
  a__is_less : Addr
  fd__is_less : FuncData
  F__is_less : FunD K "_is_less" "_is_less" (defArgs s__is_less) (defBody s__is_less) (defScope s__is_less) [] [] a__is_less fd__is_less
  g__is_less : mg "_is_less" = some (.ref a__is_less)
  a__check_all : Addr
  fd__check_all : FuncData
  F__check_all : FunD K "_check_all" "_check_all" (defArgs s__check_all) (defBody s__check_all) (defScope s__check_all) [] [] a__check_all fd__check_all
  g__check_all : mg "_check_all" = some (.ref a__check_all)
  a__check_not_empty : Addr
  fd__check_not_empty : FuncData
  F__check_not_empty : FunD K "_check_not_empty" "_check_not_empty" (defArgs s__check_not_empty) (defBody s__check_not_empty) (defScope s__check_not_empty) [] [] a__check_not_empty fd__check_not_empty
  g__check_not_empty : mg "_check_not_empty" = some (.ref a__check_not_empty)
  a_check_ratio : Addr
  fd_check_ratio : FuncData
  F_check_ratio : FunD K "check_ratio" "check_ratio" (defArgs s_check_ratio) (defBody s_check_ratio) (defScope s_check_ratio) [] [] a_check_ratio fd_check_ratio
  g_check_ratio : mg "check_ratio" = some (.ref a_check_ratio)
  a_check_ratio_below_one : Addr
  fd_check_ratio_below_one : FuncData
  F_check_ratio_below_one : FunD K "check_ratio_below_one" "check_ratio_below_one" (defArgs s_check_ratio_below_one) (defBody s_check_ratio_below_one) (defScope s_check_ratio_below_one) [] [] a_check_ratio_below_one fd_check_ratio_below_one
  g_check_ratio_below_one : mg "check_ratio_below_one" = some (.ref a_check_ratio_below_one)
  a_ladder : Addr
  fd_ladder : FuncData
  F_ladder : FunD K "ladder" "ladder" (defArgs s_ladder) (defBody s_ladder) (defScope s_ladder) [] [] a_ladder fd_ladder
  g_ladder : mg "ladder" = some (.ref a_ladder)
  a_unladder : Addr
  fd_unladder : FuncData
  F_unladder : FunD K "unladder" "unladder" (defArgs s_unladder) (defBody s_unladder) (defScope s_unladder) [] [] a_unladder fd_unladder
  g_unladder : mg "unladder" = some (.ref a_unladder)
  a_wide : Addr
  fd_wide : FuncData
  F_wide : FunD K "wide" "wide" (defArgs s_wide) (defBody s_wide) (defScope s_wide) [] [] a_wide fd_wide
  g_wide : mg "wide" = some (.ref a_wide)
  a__row : Addr
  fd__row : FuncData
  F__row : FunD K "_row" "_row" (defArgs s__row) (defBody s__row) (defScope s__row) [] [] a__row fd__row
  g__row : mg "_row" = some (.ref a__row)
  a__step : Addr
  fd__step : FuncData
  F__step : FunD K "_step" "_step" (defArgs s__step) (defBody s__step) (defScope s__step) [] [] a__step fd__step
  g__step : mg "_step" = some (.ref a__step)
  a__inverse_row : Addr
  fd__inverse_row : FuncData
  F__inverse_row : FunD K "_inverse_row" "_inverse_row" (defArgs s__inverse_row) (defBody s__inverse_row) (defScope s__inverse_row) [] [] a__inverse_row fd__inverse_row
  g__inverse_row : mg "_inverse_row" = some (.ref a__inverse_row)
  a__chance_far_off : Addr
  fd__chance_far_off : FuncData
  F__chance_far_off : FunD K "_chance_far_off" "_chance_far_off" (defArgs s__chance_far_off) (defBody s__chance_far_off) (defScope s__chance_far_off) [] [] a__chance_far_off fd__chance_far_off
  g__chance_far_off : mg "_chance_far_off" = some (.ref a__chance_far_off)
  a_is_chance : Addr
  fd_is_chance : FuncData
  F_is_chance : FunD K "is_chance" "is_chance" (defArgs s_is_chance) (defBody s_is_chance) (defScope s_is_chance) [] [] a_is_chance fd_is_chance
  g_is_chance : mg "is_chance" = some (.ref a_is_chance)
  a_is_row : Addr
  fd_is_row : FuncData
  F_is_row : FunD K "is_row" "is_row" (defArgs s_is_row) (defBody s_is_row) (defScope s_is_row) [] [] a_is_row fd_is_row
  g_is_row : mg "is_row" = some (.ref a_is_row)
  t_is_row : TabF K fd_is_row
  a_is_scheme : Addr
  fd_is_scheme : FuncData
  F_is_scheme : FunD K "is_scheme" "is_scheme" (defArgs s_is_scheme) (defBody s_is_scheme) (defScope s_is_scheme) [] [] a_is_scheme fd_is_scheme
  g_is_scheme : mg "is_scheme" = some (.ref a_is_scheme)
  t_is_scheme : TabF K fd_is_scheme
  a_check_scheme : Addr
  fd_check_scheme : FuncData
  F_check_scheme : FunD K "check_scheme" "check_scheme" (defArgs s_check_scheme) (defBody s_check_scheme) (defScope s_check_scheme) [] [] a_check_scheme fd_check_scheme
  g_check_scheme : mg "check_scheme" = some (.ref a_check_scheme)
  a_read_by : Addr
  fd_read_by : FuncData
  F_read_by : FunD K "read_by" "read_by" (defArgs s_read_by) (defBody s_read_by) (defScope s_read_by) [] [] a_read_by fd_read_by
  g_read_by : mg "read_by" = some (.ref a_read_by)
  a__law_deck : Addr
  fd__law_deck : FuncData
  F__law_deck : FunD K "_law_deck" "_law_deck" (defArgs s__law_deck) (defBody s__law_deck) (defScope s__law_deck) [] [] a__law_deck fd__law_deck
  g__law_deck : mg "_law_deck" = some (.ref a__law_deck)
  a__law_take : Addr
  fd__law_take : FuncData
  F__law_take : FunD K "_law_take" "_law_take" (defArgs s__law_take) (defBody s__law_take) (defScope s__law_take) [] [] a__law_take fd__law_take
  g__law_take : mg "_law_take" = some (.ref a__law_take)
  a__law_gcd : Addr
  fd__law_gcd : FuncData
  F__law_gcd : FunD K "_law_gcd" "_law_gcd" (defArgs s__law_gcd) (defBody s__law_gcd) (defScope s__law_gcd) [] [] a__law_gcd fd__law_gcd
  g__law_gcd : mg "_law_gcd" = some (.ref a__law_gcd)
  a__law_pair : Addr
  fd__law_pair : FuncData
  F__law_pair : FunD K "_law_pair" "_law_pair" (defArgs s__law_pair) (defBody s__law_pair) (defScope s__law_pair) [] [] a__law_pair fd__law_pair
  g__law_pair : mg "_law_pair" = some (.ref a__law_pair)
  a__law_plus : Addr
  fd__law_plus : FuncData
  F__law_plus : FunD K "_law_plus" "_law_plus" (defArgs s__law_plus) (defBody s__law_plus) (defScope s__law_plus) [] [] a__law_plus fd__law_plus
  g__law_plus : mg "_law_plus" = some (.ref a__law_plus)
  a__law_times : Addr
  fd__law_times : FuncData
  F__law_times : FunD K "_law_times" "_law_times" (defArgs s__law_times) (defBody s__law_times) (defScope s__law_times) [] [] a__law_times fd__law_times
  g__law_times : mg "_law_times" = some (.ref a__law_times)
  a__law_less : Addr
  fd__law_less : FuncData
  F__law_less : FunD K "_law_less" "_law_less" (defArgs s__law_less) (defBody s__law_less) (defScope s__law_less) [] [] a__law_less fd__law_less
  g__law_less : mg "_law_less" = some (.ref a__law_less)
  a__law_same : Addr
  fd__law_same : FuncData
  F__law_same : FunD K "_law_same" "_law_same" (defArgs s__law_same) (defBody s__law_same) (defScope s__law_same) [] [] a__law_same fd__law_same
  g__law_same : mg "_law_same" = some (.ref a__law_same)
  a__law_weights : Addr
  fd__law_weights : FuncData
  F__law_weights : FunD K "_law_weights" "_law_weights" (defArgs s__law_weights) (defBody s__law_weights) (defScope s__law_weights) [] [] a__law_weights fd__law_weights
  g__law_weights : mg "_law_weights" = some (.ref a__law_weights)
  a__law_shares : Addr
  fd__law_shares : FuncData
  F__law_shares : FunD K "_law_shares" "_law_shares" (defArgs s__law_shares) (defBody s__law_shares) (defScope s__law_shares) [] [] a__law_shares fd__law_shares
  g__law_shares : mg "_law_shares" = some (.ref a__law_shares)
  a__law_ratio : Addr
  fd__law_ratio : FuncData
  F__law_ratio : FunD K "_law_ratio" "_law_ratio" (defArgs s__law_ratio) (defBody s__law_ratio) (defScope s__law_ratio) [] [] a__law_ratio fd__law_ratio
  g__law_ratio : mg "_law_ratio" = some (.ref a__law_ratio)
  a__law_product : Addr
  fd__law_product : FuncData
  F__law_product : FunD K "_law_product" "_law_product" (defArgs s__law_product) (defBody s__law_product) (defScope s__law_product) [] [] a__law_product fd__law_product
  g__law_product : mg "_law_product" = some (.ref a__law_product)
  a__law_are_numbers : Addr
  fd__law_are_numbers : FuncData
  F__law_are_numbers : FunD K "_law_are_numbers" "_law_are_numbers" (defArgs s__law_are_numbers) (defBody s__law_are_numbers) (defScope s__law_are_numbers) [] [] a__law_are_numbers fd__law_are_numbers
  g__law_are_numbers : mg "_law_are_numbers" = some (.ref a__law_are_numbers)
  a__law_lowest : Addr
  fd__law_lowest : FuncData
  F__law_lowest : FunD K "_law_lowest" "_law_lowest" (defArgs s__law_lowest) (defBody s__law_lowest) (defScope s__law_lowest) [] [] a__law_lowest fd__law_lowest
  g__law_lowest : mg "_law_lowest" = some (.ref a__law_lowest)
  a__law_unit : Addr
  fd__law_unit : FuncData
  F__law_unit : FunD K "_law_unit" "_law_unit" (defArgs s__law_unit) (defBody s__law_unit) (defScope s__law_unit) [] [] a__law_unit fd__law_unit
  g__law_unit : mg "_law_unit" = some (.ref a__law_unit)
  a__law_wide : Addr
  fd__law_wide : FuncData
  F__law_wide : FunD K "_law_wide" "_law_wide" (defArgs s__law_wide) (defBody s__law_wide) (defScope s__law_wide) [] [] a__law_wide fd__law_wide
  g__law_wide : mg "_law_wide" = some (.ref a__law_wide)
  a__law_right : Addr
  fd__law_right : FuncData
  F__law_right : FunD K "_law_right" "_law_right" (defArgs s__law_right) (defBody s__law_right) (defScope s__law_right) [] [] a__law_right fd__law_right
  g__law_right : mg "_law_right" = some (.ref a__law_right)
  a_law : Addr
  fd_law : FuncData
  F_law : FunD K "law" "law" (defArgs s_law) (defBody s_law) (defScope s_law) [] [] a_law fd_law
  g_law : mg "law" = some (.ref a_law)
  v_ZERO : V
  u_ZERO : Value
  g_ZERO : mg "ZERO" = some u_ZERO
  r_ZERO : RelV v_ZERO u_ZERO
  q_ZERO : ∀ H, Dq K H v_ZERO d_ZERO
  v_ONE : V
  u_ONE : Value
  g_ONE : mg "ONE" = some u_ONE
  r_ONE : RelV v_ONE u_ONE
  q_ONE : ∀ H, Dq K H v_ONE d_ONE
  n_abs : mg "abs" = none
  n_all : mg "all" = none
  n_bool : mg "bool" = none
  n_enumerate : mg "enumerate" = none
  n_int : mg "int" = none
  n_isinstance : mg "isinstance" = none
  n_len : mg "len" = none
  n_list : mg "list" = none
  n_max : mg "max" = none
  n_min : mg "min" = none
  n_range : mg "range" = none
  n_str : mg "str" = none
  n_sum : mg "sum" = none
  n_tuple : mg "tuple" = none
  n_zip : mg "zip" = none
  m_gcd : mg "gcd" = some (.builtin "math.gcd")
variable {P : Program} {w : World} {K : PySem.W.Frag} {mg : Str → Option Value} {base : Heap}
theorem b_is_whole (e : En K mg) : Binds K e.fd_is_whole ["told"] [] := e.F_is_whole.bindsN fun _ _ _ _ _ _ us hl => match us, hl with | [_], _ => rfl
theorem b_is_number (e : En K mg) : Binds K e.fd_is_number ["told"] [] := e.F_is_number.bindsN fun _ _ _ _ _ _ us hl => match us, hl with | [_], _ => rfl
theorem b_check_count (e : En K mg) : Binds K e.fd_check_count ["n"] [] := e.F_check_count.bindsN fun _ _ _ _ _ _ us hl => match us, hl with | [_], _ => rfl
theorem b_number (e : En K mg) : Binds K e.fd_number ["top", "bottom"] [] := e.F_number.bindsN fun _ _ _ _ _ _ us hl => match us, hl with | [_, _], _ => rfl
theorem b__check_all (e : En K mg) : Binds K e.fd__check_all ["numbers"] [] := e.F__check_all.bindsN fun _ _ _ _ _ _ us hl => match us, hl with | [_], _ => rfl
theorem b_plus (e : En K mg) : Binds K e.fd_plus ["a", "b"] [] := e.F_plus.bindsN fun _ _ _ _ _ _ us hl => match us, hl with | [_, _], _ => rfl
theorem b_minus (e : En K mg) : Binds K e.fd_minus ["a", "b"] [] := e.F_minus.bindsN fun _ _ _ _ _ _ us hl => match us, hl with | [_, _], _ => rfl
theorem b_times (e : En K mg) : Binds K e.fd_times ["a", "b"] [] := e.F_times.bindsN fun _ _ _ _ _ _ us hl => match us, hl with | [_, _], _ => rfl
theorem b_by (e : En K mg) : Binds K e.fd_by ["a", "b"] [] := e.F_by.bindsN fun _ _ _ _ _ _ us hl => match us, hl with | [_, _], _ => rfl
theorem b_power (e : En K mg) : Binds K e.fd_power ["a", "n"] [] := e.F_power.bindsN fun _ _ _ _ _ _ us hl => match us, hl with | [_, _], _ => rfl
theorem b__is_less (e : En K mg) : Binds K e.fd__is_less ["a", "b"] [] := e.F__is_less.bindsN fun _ _ _ _ _ _ us hl => match us, hl with | [_, _], _ => rfl
theorem b__check_not_empty (e : En K mg) : Binds K e.fd__check_not_empty ["numbers"] [] := e.F__check_not_empty.bindsN fun _ _ _ _ _ _ us hl => match us, hl with | [_], _ => rfl
theorem b_greatest (e : En K mg) : Binds K e.fd_greatest ["numbers"] [] := e.F_greatest.bindsN fun _ _ _ _ _ _ us hl => match us, hl with | [_], _ => rfl
theorem b_total (e : En K mg) : Binds K e.fd_total ["numbers"] [] := e.F_total.bindsN fun _ _ _ _ _ _ us hl => match us, hl with | [_], _ => rfl
theorem b_dot (e : En K mg) : Binds K e.fd_dot ["numbers", "others"] [] := e.F_dot.bindsN fun _ _ _ _ _ _ us hl => match us, hl with | [_, _], _ => rfl
theorem b_check_ratio (e : En K mg) : Binds K e.fd_check_ratio ["ratio"] [] := e.F_check_ratio.bindsN fun _ _ _ _ _ _ us hl => match us, hl with | [_], _ => rfl
theorem b_check_ratio_below_one (e : En K mg) : Binds K e.fd_check_ratio_below_one ["n", "ratio"] [] := e.F_check_ratio_below_one.bindsN fun _ _ _ _ _ _ us hl => match us, hl with | [_, _], _ => rfl
theorem b__step (e : En K mg) : Binds K e.fd__step ["n", "ratio", "i", "r"] [] := e.F__step.bindsN fun _ _ _ _ _ _ us hl => match us, hl with | [_, _, _, _], _ => rfl
theorem b__row (e : En K mg) : Binds K e.fd__row ["n", "ratio", "i"] [] := e.F__row.bindsN fun _ _ _ _ _ _ us hl => match us, hl with | [_, _, _], _ => rfl
theorem b_ladder (e : En K mg) : Binds K e.fd_ladder ["n", "ratio"] [] := e.F_ladder.bindsN fun _ _ _ _ _ _ us hl => match us, hl with | [_, _], _ => rfl
theorem b__inverse_row (e : En K mg) : Binds K e.fd__inverse_row ["n", "ratio", "r"] [] := e.F__inverse_row.bindsN fun _ _ _ _ _ _ us hl => match us, hl with | [_, _, _], _ => rfl
theorem b_unladder (e : En K mg) : Binds K e.fd_unladder ["n", "ratio"] [] := e.F_unladder.bindsN fun _ _ _ _ _ _ us hl => match us, hl with | [_, _], _ => rfl
theorem b__chance_far_off (e : En K mg) : Binds K e.fd__chance_far_off ["row", "i", "far"] [] := e.F__chance_far_off.bindsN fun _ _ _ _ _ _ us hl => match us, hl with | [_, _, _], _ => rfl
theorem b_wide (e : En K mg) : Binds K e.fd_wide ["n", "ratio", "far"] [] := e.F_wide.bindsN fun _ _ _ _ _ _ us hl => match us, hl with | [_, _, _], _ => rfl
theorem b_is_chance (e : En K mg) : Binds K e.fd_is_chance ["told"] [] := e.F_is_chance.bindsN fun _ _ _ _ _ _ us hl => match us, hl with | [_], _ => rfl
theorem b_is_row (e : En K mg) : Binds K e.fd_is_row ["told"] [] := e.F_is_row.bindsN fun _ _ _ _ _ _ us hl => match us, hl with | [_], _ => rfl
theorem b_is_scheme (e : En K mg) : Binds K e.fd_is_scheme ["told"] [] := e.F_is_scheme.bindsN fun _ _ _ _ _ _ us hl => match us, hl with | [_], _ => rfl
theorem b_check_scheme (e : En K mg) : Binds K e.fd_check_scheme ["told"] [] := e.F_check_scheme.bindsN fun _ _ _ _ _ _ us hl => match us, hl with | [_], _ => rfl
theorem b_read_by (e : En K mg) : Binds K e.fd_read_by ["scheme", "mixed"] [] := e.F_read_by.bindsN fun _ _ _ _ _ _ us hl => match us, hl with | [_, _], _ => rfl
theorem b__law_deck (e : En K mg) : Binds K e.fd__law_deck ["_law_script", "_law_k"] [] := e.F__law_deck.bindsN fun _ _ _ _ _ _ us hl => match us, hl with | [_, _], _ => rfl
theorem b__law_take (e : En K mg) : Binds K e.fd__law_take ["_law_deck_here", "_law_many"] [] := e.F__law_take.bindsN fun _ _ _ _ _ _ us hl => match us, hl with | [_, _], _ => rfl
theorem b__law_gcd (e : En K mg) : Binds K e.fd__law_gcd ["_law_u", "_law_v"] [] := e.F__law_gcd.bindsN fun _ _ _ _ _ _ us hl => match us, hl with | [_, _], _ => rfl
theorem b__law_pair (e : En K mg) : Binds K e.fd__law_pair ["_law_upper", "_law_lower"] [] := e.F__law_pair.bindsN fun _ _ _ _ _ _ us hl => match us, hl with | [_, _], _ => rfl
theorem b__law_plus (e : En K mg) : Binds K e.fd__law_plus ["_law_u", "_law_v"] [] := e.F__law_plus.bindsN fun _ _ _ _ _ _ us hl => match us, hl with | [_, _], _ => rfl
theorem b__law_times (e : En K mg) : Binds K e.fd__law_times ["_law_u", "_law_v"] [] := e.F__law_times.bindsN fun _ _ _ _ _ _ us hl => match us, hl with | [_, _], _ => rfl
theorem b__law_less (e : En K mg) : Binds K e.fd__law_less ["_law_u", "_law_v"] [] := e.F__law_less.bindsN fun _ _ _ _ _ _ us hl => match us, hl with | [_, _], _ => rfl
theorem b__law_same (e : En K mg) : Binds K e.fd__law_same ["_law_found", "_law_due"] [] := e.F__law_same.bindsN fun _ _ _ _ _ _ us hl => match us, hl with | [_, _], _ => rfl
theorem b__law_weights (e : En K mg) : Binds K e.fd__law_weights ["_law_deck_here", "_law_many"] [] := e.F__law_weights.bindsN fun _ _ _ _ _ _ us hl => match us, hl with | [_, _], _ => rfl
theorem b__law_shares (e : En K mg) : Binds K e.fd__law_shares ["_law_weights_here"] [] := e.F__law_shares.bindsN fun _ _ _ _ _ _ us hl => match us, hl with | [_], _ => rfl
theorem b__law_ratio (e : En K mg) : Binds K e.fd__law_ratio ["_law_deck_here"] [] := e.F__law_ratio.bindsN fun _ _ _ _ _ _ us hl => match us, hl with | [_], _ => rfl
theorem b__law_product (e : En K mg) : Binds K e.fd__law_product ["_law_first", "_law_second"] [] := e.F__law_product.bindsN fun _ _ _ _ _ _ us hl => match us, hl with | [_, _], _ => rfl
theorem b__law_lowest (e : En K mg) : Binds K e.fd__law_lowest ["_law_cell"] [] := e.F__law_lowest.bindsN fun _ _ _ _ _ _ us hl => match us, hl with | [_], _ => rfl
theorem b__law_are_numbers (e : En K mg) : Binds K e.fd__law_are_numbers ["_law_plan", "_law_many"] [] := e.F__law_are_numbers.bindsN fun _ _ _ _ _ _ us hl => match us, hl with | [_, _], _ => rfl
theorem b__law_unit (e : En K mg) : Binds K e.fd__law_unit ["_law_many", "_law_j"] [] := e.F__law_unit.bindsN fun _ _ _ _ _ _ us hl => match us, hl with | [_, _], _ => rfl
theorem b__law_wide (e : En K mg) : Binds K e.fd__law_wide ["_law_plan", "_law_away"] [] := e.F__law_wide.bindsN fun _ _ _ _ _ _ us hl => match us, hl with | [_, _], _ => rfl
theorem b__law_right (e : En K mg) : Binds K e.fd__law_right ["_law_deck_here"] [] := e.F__law_right.bindsN fun _ _ _ _ _ _ us hl => match us, hl with | [_], _ => rfl
theorem b_law (e : En K mg) : Binds K e.fd_law ["_law_script"] [] := e.F_law.bindsN fun _ _ _ _ _ _ us hl => match us, hl with | [_], _ => rfl
theorem kb_unladder_0_ratio_n (e : En K mg) : KwB e.fd_unladder ["n", "ratio"] ["ratio", "n"] 0 pm_unladder_0_ratio_n := kwb_of e.F_unladder (fun _ _ _ _ _ _ us ws h1 h2 => match us, ws, h1, h2 with | [], [w0, w1], _, _ => rfl) (fun R as bs h r => by rcases r with _ | ⟨p0, _ | ⟨p1, _ | ⟨_, _⟩⟩⟩ <;> first | exact .cons p1 (.cons p0 (.nil)) | (simp at h; done)) (fun K H vs ds h r => by rcases r with _ | ⟨p0, _ | ⟨p1, _ | ⟨_, _⟩⟩⟩ <;> first | exact .cons p1 (.cons p0 (.nil)) | (simp at h; done))
theorem kb_wide_0_far_ratio_n (e : En K mg) : KwB e.fd_wide ["n", "ratio", "far"] ["far", "ratio", "n"] 0 pm_wide_0_far_ratio_n := kwb_of e.F_wide (fun _ _ _ _ _ _ us ws h1 h2 => match us, ws, h1, h2 with | [], [w0, w1, w2], _, _ => rfl) (fun R as bs h r => by rcases r with _ | ⟨p0, _ | ⟨p1, _ | ⟨p2, _ | ⟨_, _⟩⟩⟩⟩ <;> first | exact .cons p2 (.cons p1 (.cons p0 (.nil))) | (simp at h; done)) (fun K H vs ds h r => by rcases r with _ | ⟨p0, _ | ⟨p1, _ | ⟨p2, _ | ⟨_, _⟩⟩⟩⟩ <;> first | exact .cons p2 (.cons p1 (.cons p0 (.nil))) | (simp at h; done))
/-! ### is_whole -/
theorem sc_is_whole : FnScope ["told"] ["told"] (defScope s_is_whole) := ⟨rfl, rfl, rfl, by decide +kernel, rfl, by decide +kernel, by decide +kernel⟩
theorem ok_is_whole (e : En K mg) (n : Nat) : FnOk P w K mg base (L2.CX P w) (n + 1) e.a_is_whole e.fd_is_whole ["told"] (spF K e.cl (f_is_whole)) := have sc := sc_is_whole; def_okD e.F_is_whole sc fun cdv A outer s H E hr => xs_one (xs_ret (x_and (x_isi1V 0 .int (bltn_ty (T := .int) e.n_int (by decide +kernel)) e.n_isinstance) (x_one (x_not (x_isi1V 0 .bool (bltn_ty (T := .bool) e.n_bool (by decide +kernel)) e.n_isinstance)))))
/-! ### is_number -/
theorem sc_is_number : FnScope ["told", "top", "bottom"] ["told"] (defScope s_is_number) := ⟨rfl, rfl, rfl, by decide +kernel, rfl, by decide +kernel, by decide +kernel⟩
theorem ok_is_number (e : En K mg) (n : Nat) : FnOk P w K mg base (L2.CX P w) (n + 2) e.a_is_number e.fd_is_number ["told"] (spF K e.cl (f_is_number)) := have sc := sc_is_number; def_okD e.F_is_number sc fun cdv A outer s H E hr => xs_cons (xs_if (PW.pt (xw_or (xt_not (xt_val (x_isi1V 0 .tuple (bltn_ty (T := .tuple) e.n_tuple (by decide +kernel)) e.n_isinstance))) (xw_one (xt_ne (Room.u64 hr) (x_b1V 0 call_len cb_len e.n_len (by decide +kernel)) (x_int))))) (xs_one (xs_ret (x_bl))) (xs_nil)) (xs_cons (xs_unp [1, 2] (x_var 0) (xg_cons 1 (xg_cons 2 (xg_nil) sc.nd) sc.nd) rfl) (xs_one (xs_ret (x_and (x_call (ok_is_whole e (n + 0)) hr e.g_is_whole e.F_is_whole.kp (b_is_whole e) (takes_of rfl rfl rfl rfl) (xa_cons (x_var 1) (xa_nil))) (x_and (x_call (ok_is_whole e (n + 0)) hr e.g_is_whole e.F_is_whole.kp (b_is_whole e) (takes_of rfl rfl rfl rfl) (xa_cons (x_var 2) (xa_nil))) (x_and (x_gt (x_var 2) (x_int)) (x_one (x_eq (Room.u64 hr) (x_f2 cr_gcd (cb_i2 fun _ _ _ => .int _) e.m_gcd (x_var 1) (x_var 2)) (x_int)))))))))
/-! ### check_count -/
theorem sc_check_count : FnScope ["n"] ["n"] (defScope s_check_count) := ⟨rfl, rfl, rfl, by decide +kernel, rfl, by decide +kernel, by decide +kernel⟩
theorem ok_check_count (e : En K mg) (n : Nat) : FnOk P w K mg base (L2.CX P w) (n + 2) e.a_check_count e.fd_check_count ["n"] (spF K e.cl (f_check_count)) := have sc := sc_check_count; def_okD e.F_check_count sc fun cdv A outer s H E hr => xs_one (xs_if (PW.pt (xw_or (xt_not (xt_val (x_call (ok_is_whole e (n + 0)) hr e.g_is_whole e.F_is_whole.kp (b_is_whole e) (takes_of rfl rfl rfl rfl) (xa_cons (x_var 0) (xa_nil))))) (xw_one (xt_lt (x_var 0) (x_int))))) (xs_one (xs_raise 1 e.T_InvalidNumber e.c_InvalidNumber hr rfl (takes_of rfl rfl rfl rfl) (x_var 0))) (xs_nil))
/-! ### number -/
theorem sc_number : FnScope ["top", "bottom", "shared"] ["top", "bottom"] (defScope s_number) := ⟨rfl, rfl, rfl, by decide +kernel, rfl, by decide +kernel, by decide +kernel⟩
theorem ok_number (e : En K mg) (n : Nat) : FnOk P w K mg base (L2.CX P w) (n + 2) e.a_number e.fd_number ["top", "bottom"] (spF K e.cl (f_number)) := have sc := sc_number; def_okD e.F_number sc fun cdv A outer s H E hr => xs_cons (xs_if (xt_eqV 1 (Room.u64 hr) (x_int)) (xs_one (xs_raise 5 e.T_DividedByZero e.c_DividedByZero hr rfl (takes_of rfl rfl rfl rfl) (x_var 0))) (xs_nil)) (xs_cons (xs_set 2 (x_f2 cr_gcd (cb_i2 fun _ _ _ => .int _) e.m_gcd (x_var 0) (x_var 1)) sc.nd) (xs_cons (xs_if (xt_lt (x_var 1) (x_int)) (xs_one (xs_set 2 (x_neg (x_var 2)) sc.nd)) (xs_nil)) (xs_one (xs_ret (x_tup (xa_cons (x_div (x_var 0) (x_var 2)) (xa_cons (x_div (x_var 1) (x_var 2)) (xa_nil))))))))
/-! ### _check_all -/
theorem sc__check_all : FnScope ["numbers", "a"] ["numbers"] (defScope s__check_all) := ⟨rfl, rfl, rfl, by decide +kernel, rfl, by decide +kernel, by decide +kernel⟩
theorem ok__check_all (e : En K mg) (n : Nat) : FnOk P w K mg base (L2.CX P w) (n + 3) e.a__check_all e.fd__check_all ["numbers"] (spF K e.cl (f__check_all)) := have sc := sc__check_all; def_okD e.F__check_all sc fun cdv A outer s H E hr => xs_one (xs_for (xi_seq (x_var 0)) (pg_name sc.nd rfl (by first | exact Or.inl rfl | exact Or.inr rfl)) (tg_name) (puts_N) (xs_one (xs_if (xt_not (xt_val (x_call (ok_is_number e (n + 0)) hr e.g_is_number e.F_is_number.kp (b_is_number e) (takes_of rfl rfl rfl rfl) (xa_cons (x_var 1) (xa_nil))))) (xs_one (xs_raise 1 e.T_InvalidNumber e.c_InvalidNumber hr rfl (takes_of rfl rfl rfl rfl) (x_var 1))) (xs_nil))) (passes_of rfl) rfl)
/-! ### plus -/
theorem sc_plus : FnScope ["a", "b"] ["a", "b"] (defScope s_plus) := ⟨rfl, rfl, rfl, by decide +kernel, rfl, by decide +kernel, by decide +kernel⟩
theorem ok_plus (e : En K mg) (n : Nat) : FnOk P w K mg base (L2.CX P w) (n + 4) e.a_plus e.fd_plus ["a", "b"] (spF K e.cl (f_plus)) := have sc := sc_plus; def_okD e.F_plus sc fun cdv A outer s H E hr => xs_cons (xs_drop (x_call (ok__check_all e (n + 0)) hr e.g__check_all e.F__check_all.kp (b__check_all e) (takes_of rfl rfl rfl rfl) (xa_cons (x_tup (xa_cons (x_var 0) (xa_cons (x_var 1) (xa_nil)))) (xa_nil)))) (xs_one (xs_ret (x_call (ok_number e (n + 1)) hr e.g_number e.F_number.kp (b_number e) (takes_of rfl rfl rfl rfl) (xa_cons (x_add (x_mul (x_itemV 0 (x_int)) (x_itemV 1 (x_int))) (x_mul (x_itemV 1 (x_int)) (x_itemV 0 (x_int)))) (xa_cons (x_mul (x_itemV 0 (x_int)) (x_itemV 1 (x_int))) (xa_nil))))))
/-! ### minus -/
theorem sc_minus : FnScope ["a", "b"] ["a", "b"] (defScope s_minus) := ⟨rfl, rfl, rfl, by decide +kernel, rfl, by decide +kernel, by decide +kernel⟩
theorem ok_minus (e : En K mg) (n : Nat) : FnOk P w K mg base (L2.CX P w) (n + 4) e.a_minus e.fd_minus ["a", "b"] (spF K e.cl (f_minus)) := have sc := sc_minus; def_okD e.F_minus sc fun cdv A outer s H E hr => xs_cons (xs_drop (x_call (ok__check_all e (n + 0)) hr e.g__check_all e.F__check_all.kp (b__check_all e) (takes_of rfl rfl rfl rfl) (xa_cons (x_tup (xa_cons (x_var 0) (xa_cons (x_var 1) (xa_nil)))) (xa_nil)))) (xs_one (xs_ret (x_call (ok_number e (n + 1)) hr e.g_number e.F_number.kp (b_number e) (takes_of rfl rfl rfl rfl) (xa_cons (x_sub (x_mul (x_itemV 0 (x_int)) (x_itemV 1 (x_int))) (x_mul (x_itemV 1 (x_int)) (x_itemV 0 (x_int)))) (xa_cons (x_mul (x_itemV 0 (x_int)) (x_itemV 1 (x_int))) (xa_nil))))))
/-! ### times -/
theorem sc_times : FnScope ["a", "b"] ["a", "b"] (defScope s_times) := ⟨rfl, rfl, rfl, by decide +kernel, rfl, by decide +kernel, by decide +kernel⟩
theorem ok_times (e : En K mg) (n : Nat) : FnOk P w K mg base (L2.CX P w) (n + 4) e.a_times e.fd_times ["a", "b"] (spF K e.cl (f_times)) := have sc := sc_times; def_okD e.F_times sc fun cdv A outer s H E hr => xs_cons (xs_drop (x_call (ok__check_all e (n + 0)) hr e.g__check_all e.F__check_all.kp (b__check_all e) (takes_of rfl rfl rfl rfl) (xa_cons (x_tup (xa_cons (x_var 0) (xa_cons (x_var 1) (xa_nil)))) (xa_nil)))) (xs_one (xs_ret (x_call (ok_number e (n + 1)) hr e.g_number e.F_number.kp (b_number e) (takes_of rfl rfl rfl rfl) (xa_cons (x_mul (x_itemV 0 (x_int)) (x_itemV 1 (x_int))) (xa_cons (x_mul (x_itemV 0 (x_int)) (x_itemV 1 (x_int))) (xa_nil))))))
/-! ### by -/
theorem sc_by : FnScope ["a", "b"] ["a", "b"] (defScope s_by) := ⟨rfl, rfl, rfl, by decide +kernel, rfl, by decide +kernel, by decide +kernel⟩
theorem ok_by (e : En K mg) (n : Nat) : FnOk P w K mg base (L2.CX P w) (n + 4) e.a_by e.fd_by ["a", "b"] (spF K e.cl (f_by)) := have sc := sc_by; def_okD e.F_by sc fun cdv A outer s H E hr => xs_cons (xs_drop (x_call (ok__check_all e (n + 0)) hr e.g__check_all e.F__check_all.kp (b__check_all e) (takes_of rfl rfl rfl rfl) (xa_cons (x_tup (xa_cons (x_var 0) (xa_cons (x_var 1) (xa_nil)))) (xa_nil)))) (xs_cons (xs_if (xt_eqV 1 (Room.u64 hr) (x_glob e.g_ZERO e.r_ZERO e.q_ZERO)) (xs_one (xs_raise 5 e.T_DividedByZero e.c_DividedByZero hr rfl (takes_of rfl rfl rfl rfl) (x_var 0))) (xs_nil)) (xs_one (xs_ret (x_call (ok_number e (n + 1)) hr e.g_number e.F_number.kp (b_number e) (takes_of rfl rfl rfl rfl) (xa_cons (x_mul (x_itemV 0 (x_int)) (x_itemV 1 (x_int))) (xa_cons (x_mul (x_itemV 0 (x_int)) (x_itemV 1 (x_int))) (xa_nil)))))))
/-! ### power -/
theorem sc_power : FnScope ["a", "n", "top", "bottom", "_"] ["a", "n"] (defScope s_power) := ⟨rfl, rfl, rfl, by decide +kernel, rfl, by decide +kernel, by decide +kernel⟩
theorem ok_power (e : En K mg) (n : Nat) : FnOk P w K mg base (L2.CX P w) (n + 4) e.a_power e.fd_power ["a", "n"] (spF K e.cl (f_power)) := have sc := sc_power; def_okD e.F_power sc fun cdv A outer s H E hr => xs_cons (xs_drop (x_call (ok__check_all e (n + 0)) hr e.g__check_all e.F__check_all.kp (b__check_all e) (takes_of rfl rfl rfl rfl) (xa_cons (x_tup (xa_cons (x_var 0) (xa_nil))) (xa_nil)))) (xs_cons (xs_drop (x_call (ok_check_count e (n + 1)) hr e.g_check_count e.F_check_count.kp (b_check_count e) (takes_of rfl rfl rfl rfl) (xa_cons (x_var 1) (xa_nil)))) (xs_cons (xs_unp [2, 3] (x_glob e.g_ONE e.r_ONE e.q_ONE) (xg_cons 2 (xg_cons 3 (xg_nil) sc.nd) sc.nd) rfl) (xs_cons (xs_for (xi_rng e.n_range (x_var 1)) (pg_name sc.nd rfl (by first | exact Or.inl rfl | exact Or.inr rfl)) (tg_name) (puts_N) (xs_cons (xs_set 2 (x_mul (x_var 2) (x_itemV 0 (x_int))) sc.nd) (xs_one (xs_set 3 (x_mul (x_var 3) (x_itemV 0 (x_int))) sc.nd))) (passes_of rfl) rfl) (xs_one (xs_ret (x_tup (xa_cons (x_var 2) (xa_cons (x_var 3) (xa_nil)))))))))
/-! ### _is_less -/
theorem sc__is_less : FnScope ["a", "b"] ["a", "b"] (defScope s__is_less) := ⟨rfl, rfl, rfl, by decide +kernel, rfl, by decide +kernel, by decide +kernel⟩
theorem ok__is_less (e : En K mg) (n : Nat) : FnOk P w K mg base (L2.CX P w) (n + 1) e.a__is_less e.fd__is_less ["a", "b"] (spF K e.cl (f__is_less)) := have sc := sc__is_less; def_okD e.F__is_less sc fun cdv A outer s H E hr => xs_one (xs_ret (x_lt (x_mul (x_itemV 0 (x_int)) (x_itemV 1 (x_int))) (x_mul (x_itemV 1 (x_int)) (x_itemV 0 (x_int)))))
/-! ### _check_not_empty -/
theorem sc__check_not_empty : FnScope ["numbers"] ["numbers"] (defScope s__check_not_empty) := ⟨rfl, rfl, rfl, by decide +kernel, rfl, by decide +kernel, by decide +kernel⟩
theorem ok__check_not_empty (e : En K mg) (n : Nat) : FnOk P w K mg base (L2.CX P w) (n + 4) e.a__check_not_empty e.fd__check_not_empty ["numbers"] (spF K e.cl (f__check_not_empty)) := have sc := sc__check_not_empty; def_okD e.F__check_not_empty sc fun cdv A outer s H E hr => xs_cons (xs_if (xt_eq (Room.u64 hr) (x_b1V 0 call_len cb_len e.n_len (by decide +kernel)) (x_int)) (xs_one (xs_raise 1 e.T_InvalidNumber e.c_InvalidNumber hr rfl (takes_of rfl rfl rfl rfl) (x_var 0))) (xs_nil)) (xs_one (xs_drop (x_call (ok__check_all e (n + 0)) hr e.g__check_all e.F__check_all.kp (b__check_all e) (takes_of rfl rfl rfl rfl) (xa_cons (x_var 0) (xa_nil)))))
/-! ### greatest -/
theorem sc_greatest : FnScope ["numbers", "found", "a"] ["numbers"] (defScope s_greatest) := ⟨rfl, rfl, rfl, by decide +kernel, rfl, by decide +kernel, by decide +kernel⟩
theorem ok_greatest (e : En K mg) (n : Nat) : FnOk P w K mg base (L2.CX P w) (n + 5) e.a_greatest e.fd_greatest ["numbers"] (spF K e.cl (f_greatest)) := have sc := sc_greatest; def_okD e.F_greatest sc fun cdv A outer s H E hr => xs_cons (xs_drop (x_call (ok__check_not_empty e (n + 0)) hr e.g__check_not_empty e.F__check_not_empty.kp (b__check_not_empty e) (takes_of rfl rfl rfl rfl) (xa_cons (x_var 0) (xa_nil)))) (xs_cons (xs_set 1 (x_itemV 0 (x_int)) sc.nd) (xs_cons (xs_for (xi_seq (x_var 0)) (pg_name sc.nd rfl (by first | exact Or.inl rfl | exact Or.inr rfl)) (tg_name) (puts_N) (xs_one (xs_if (xt_val (x_call (ok__is_less e (n + 3)) hr e.g__is_less e.F__is_less.kp (b__is_less e) (takes_of rfl rfl rfl rfl) (xa_cons (x_var 1) (xa_cons (x_var 2) (xa_nil))))) (xs_one (xs_set 1 (x_var 2) sc.nd)) (xs_nil))) (passes_of rfl) rfl) (xs_one (xs_retV 1))))
/-! ### total -/
theorem sc_total : FnScope ["numbers", "found", "a"] ["numbers"] (defScope s_total) := ⟨rfl, rfl, rfl, by decide +kernel, rfl, by decide +kernel, by decide +kernel⟩
theorem ok_total (e : En K mg) (n : Nat) : FnOk P w K mg base (L2.CX P w) (n + 4) e.a_total e.fd_total ["numbers"] (spF K e.cl (f_total)) := have sc := sc_total; def_okD e.F_total sc fun cdv A outer s H E hr => xs_cons (xs_drop (x_call (ok__check_all e (n + 0)) hr e.g__check_all e.F__check_all.kp (b__check_all e) (takes_of rfl rfl rfl rfl) (xa_cons (x_var 0) (xa_nil)))) (xs_cons (xs_set 1 (x_glob e.g_ZERO e.r_ZERO e.q_ZERO) sc.nd) (xs_cons (xs_for (xi_seq (x_var 0)) (pg_name sc.nd rfl (by first | exact Or.inl rfl | exact Or.inr rfl)) (tg_name) (puts_N) (xs_one (xs_set 1 (x_call (ok_number e (n + 1)) hr e.g_number e.F_number.kp (b_number e) (takes_of rfl rfl rfl rfl) (xa_cons (x_add (x_mul (x_itemV 1 (x_int)) (x_itemV 2 (x_int))) (x_mul (x_itemV 2 (x_int)) (x_itemV 1 (x_int)))) (xa_cons (x_mul (x_itemV 1 (x_int)) (x_itemV 2 (x_int))) (xa_nil)))) sc.nd)) (passes_of rfl) rfl) (xs_one (xs_retV 1))))
/-! ### dot -/
theorem sc_dot : FnScope ["numbers", "others", "a", "b"] ["numbers", "others"] (defScope s_dot) := ⟨rfl, rfl, rfl, by decide +kernel, rfl, by decide +kernel, by decide +kernel⟩
theorem ok_dot (e : En K mg) (n : Nat) : FnOk P w K mg base (L2.CX P w) (n + 5) e.a_dot e.fd_dot ["numbers", "others"] (spF K e.cl (f_dot)) := have sc := sc_dot; def_okD e.F_dot sc fun cdv A outer s H E hr => xs_one (xs_ret (x_call (ok_total e (n + 0)) hr e.g_total e.F_total.kp (b_total e) (takes_of rfl rfl rfl rfl) (xa_cons (x_lc (own := [("a", 2), ("b", 3)]) rfl sc.nd (xi_zip e.n_zip (xa_cons (x_var 0) (xa_cons (x_var 1) (xa_nil)))) (blkOk_by (N := ["numbers", "others", "a", "b"]) (sc := defScope s_dot) (by decide +kernel)) (gw_tup (by decide)) (tg_tup rfl) (putO_tup) (fun _ _ _ _ _ => pg_tup rfl (xg_cons 2 (xg_cons 3 (xg_nil) sc.nd) sc.nd)) (fun _ _ _ _ _ => x_call (ok_times e (n + 0)) hr e.g_times e.F_times.kp (b_times e) takes0 (xa_cons (x_var 2) (xa_cons (x_var 3) (xa_nil))))) (xa_nil))))
/-! ### check_ratio -/
theorem sc_check_ratio : FnScope ["ratio"] ["ratio"] (defScope s_check_ratio) := ⟨rfl, rfl, rfl, by decide +kernel, rfl, by decide +kernel, by decide +kernel⟩
theorem ok_check_ratio (e : En K mg) (n : Nat) : FnOk P w K mg base (L2.CX P w) (n + 3) e.a_check_ratio e.fd_check_ratio ["ratio"] (spF K e.cl (f_check_ratio)) := have sc := sc_check_ratio; def_okD e.F_check_ratio sc fun cdv A outer s H E hr => xs_one (xs_if (PW.pt (xw_or (xt_not (xt_val (x_call (ok_is_number e (n + 0)) hr e.g_is_number e.F_is_number.kp (b_is_number e) (takes_of rfl rfl rfl rfl) (xa_cons (x_var 0) (xa_nil))))) (xw_one (xt_not (xt_chain (OpR.or op_lt op_lt_str) (ops_or (ops_i0 fun _ _ _ => .bl _) (ops_s fun _ _ _ => .bl _)) op_le (ops_i0 fun _ _ _ => .bl _) (x_int) (x_itemV 0 (x_int)) (x_itemV 0 (x_int))))))) (xs_one (xs_raise 3 e.T_InvalidRatio e.c_InvalidRatio hr rfl (takes_of rfl rfl rfl rfl) (x_var 0))) (xs_nil))
/-! ### check_ratio_below_one -/
theorem sc_check_ratio_below_one : FnScope ["n", "ratio"] ["n", "ratio"] (defScope s_check_ratio_below_one) := ⟨rfl, rfl, rfl, by decide +kernel, rfl, by decide +kernel, by decide +kernel⟩
theorem ok_check_ratio_below_one (e : En K mg) (n : Nat) : FnOk P w K mg base (L2.CX P w) (n + 4) e.a_check_ratio_below_one e.fd_check_ratio_below_one ["n", "ratio"] (spF K e.cl (f_check_ratio_below_one)) := have sc := sc_check_ratio_below_one; def_okD e.F_check_ratio_below_one sc fun cdv A outer s H E hr => xs_cons (xs_drop (x_call (ok_check_ratio e (n + 0)) hr e.g_check_ratio e.F_check_ratio.kp (b_check_ratio e) (takes_of rfl rfl rfl rfl) (xa_cons (x_var 1) (xa_nil)))) (xs_one (xs_if (PW.pt (xw_and (xt_eqV 1 (Room.u64 hr) (x_glob e.g_ONE e.r_ONE e.q_ONE)) (xw_one (xt_gt (x_var 0) (x_int))))) (xs_one (xs_raise 3 e.T_InvalidRatio e.c_InvalidRatio hr rfl (takes_of rfl rfl rfl rfl) (x_var 1))) (xs_nil)))
/-! ### _step -/
theorem sc__step : FnScope ["n", "ratio", "i", "r", "weight"] ["n", "ratio", "i", "r"] (defScope s__step) := ⟨rfl, rfl, rfl, by decide +kernel, rfl, by decide +kernel, by decide +kernel⟩
theorem ok__step (e : En K mg) (n : Nat) : FnOk P w K mg base (L2.CX P w) (n + 5) e.a__step e.fd__step ["n", "ratio", "i", "r"] (spF K e.cl (f__step)) := have sc := sc__step; def_okD e.F__step sc fun cdv A outer s H E hr => xs_cons (xs_if (xt_eqV 0 (Room.u64 hr) (x_int)) (xs_one (xs_ret (x_glob e.g_ONE e.r_ONE e.q_ONE))) (xs_nil)) (xs_cons (xs_set 4 (x_if (xt_in (Room.u65 hr) (x_var 3) (x_tup (xa_cons (x_int) (xa_cons (x_var 0) (xa_nil))))) (x_glob e.g_ONE e.r_ONE e.q_ONE) (x_call (ok_minus e (n + 0)) hr e.g_minus e.F_minus.kp (b_minus e) (takes_of rfl rfl rfl rfl) (xa_cons (x_glob e.g_ONE e.r_ONE e.q_ONE) (xa_cons (x_var 1) (xa_nil))))) sc.nd) (xs_one (xs_ret (x_call (ok_by e (n + 0)) hr e.g_by e.F_by.kp (b_by e) (takes_of rfl rfl rfl rfl) (xa_cons (x_call (ok_times e (n + 0)) hr e.g_times e.F_times.kp (b_times e) (takes_of rfl rfl rfl rfl) (xa_cons (x_var 4) (xa_cons (x_call (ok_power e (n + 0)) hr e.g_power e.F_power.kp (b_power e) (takes_of rfl rfl rfl rfl) (xa_cons (x_var 1) (xa_cons (x_b1 call_abs cb_abs e.n_abs (by decide +kernel) (x_sub (x_var 3) (x_var 2))) (xa_nil)))) (xa_nil)))) (xa_cons (x_call (ok_plus e (n + 0)) hr e.g_plus e.F_plus.kp (b_plus e) (takes_of rfl rfl rfl rfl) (xa_cons (x_glob e.g_ONE e.r_ONE e.q_ONE) (xa_cons (x_var 1) (xa_nil)))) (xa_nil)))))))
/-! ### _row -/
theorem sc__row : FnScope ["n", "ratio", "i", "r"] ["n", "ratio", "i"] (defScope s__row) := ⟨rfl, rfl, rfl, by decide +kernel, rfl, by decide +kernel, by decide +kernel⟩
theorem ok__row (e : En K mg) (n : Nat) : FnOk P w K mg base (L2.CX P w) (n + 6) e.a__row e.fd__row ["n", "ratio", "i"] (spF K e.cl (f__row)) := have sc := sc__row; def_okD e.F__row sc fun cdv A outer s H E hr => xs_one (xs_ret (x_t1 call_tuple_of cb_tuple e.n_tuple (by decide +kernel) (x_lc (own := [("r", 3)]) rfl sc.nd (xi_rng e.n_range (x_add (x_var 0) (x_int))) (blkOk_by (N := ["n", "ratio", "i", "r"]) (sc := defScope s__row) (by decide +kernel)) (gw_name (by decide)) (tg_name) (putO_name) (fun _ _ _ _ _ => pg_name sc.nd rfl (by first | exact Or.inl rfl | exact Or.inr rfl)) (fun _ _ _ _ _ => x_call (ok__step e (n + 0)) hr e.g__step e.F__step.kp (b__step e) takes0 (xa_cons (x_var 0) (xa_cons (x_var 1) (xa_cons (x_var 2) (xa_cons (x_var 3) (xa_nil)))))))))
/-! ### ladder -/
theorem sc_ladder : FnScope ["n", "ratio", "i"] ["n", "ratio"] (defScope s_ladder) := ⟨rfl, rfl, rfl, by decide +kernel, rfl, by decide +kernel, by decide +kernel⟩
theorem ok_ladder (e : En K mg) (n : Nat) : FnOk P w K mg base (L2.CX P w) (n + 7) e.a_ladder e.fd_ladder ["n", "ratio"] (spF K e.cl (f_ladder)) := have sc := sc_ladder; def_okD e.F_ladder sc fun cdv A outer s H E hr => xs_cons (xs_drop (x_call (ok_check_count e (n + 4)) hr e.g_check_count e.F_check_count.kp (b_check_count e) (takes_of rfl rfl rfl rfl) (xa_cons (x_var 0) (xa_nil)))) (xs_cons (xs_drop (x_call (ok_check_ratio e (n + 3)) hr e.g_check_ratio e.F_check_ratio.kp (b_check_ratio e) (takes_of rfl rfl rfl rfl) (xa_cons (x_var 1) (xa_nil)))) (xs_one (xs_ret (x_t1 call_tuple_of cb_tuple e.n_tuple (by decide +kernel) (x_lc (own := [("i", 2)]) rfl sc.nd (xi_rng e.n_range (x_add (x_var 0) (x_int))) (blkOk_by (N := ["n", "ratio", "i"]) (sc := defScope s_ladder) (by decide +kernel)) (gw_name (by decide)) (tg_name) (putO_name) (fun _ _ _ _ _ => pg_name sc.nd rfl (by first | exact Or.inl rfl | exact Or.inr rfl)) (fun _ _ _ _ _ => x_call (ok__row e (n + 0)) hr e.g__row e.F__row.kp (b__row e) takes0 (xa_cons (x_var 0) (xa_cons (x_var 1) (xa_cons (x_var 2) (xa_nil))))))))))
/-! ### _inverse_row -/
theorem sc__inverse_row : FnScope ["n", "ratio", "r", "rest", "at_end", "middle", "weight", "row", "i"] ["n", "ratio", "r"] (defScope s__inverse_row) := ⟨rfl, rfl, rfl, by decide +kernel, rfl, by decide +kernel, by decide +kernel⟩
theorem ok__inverse_row (e : En K mg) (n : Nat) : FnOk P w K mg base (L2.CX P w) (n + 5) e.a__inverse_row e.fd__inverse_row ["n", "ratio", "r"] (spF K e.cl (f__inverse_row)) := have sc := sc__inverse_row; def_okD e.F__inverse_row sc fun cdv A outer s H E hr => xs_cons (xs_set 3 (x_call (ok_minus e (n + 0)) hr e.g_minus e.F_minus.kp (b_minus e) (takes_of rfl rfl rfl rfl) (xa_cons (x_glob e.g_ONE e.r_ONE e.q_ONE) (xa_cons (x_var 1) (xa_nil)))) sc.nd) (xs_cons (xs_set 4 (x_in (Room.u65 hr) (x_var 2) (x_tup (xa_cons (x_int) (xa_cons (x_var 0) (xa_nil))))) sc.nd) (xs_cons (xs_set 5 (x_if (xt_val (x_var 4)) (x_glob e.g_ONE e.r_ONE e.q_ONE) (x_call (ok_plus e (n + 0)) hr e.g_plus e.F_plus.kp (b_plus e) (takes_of rfl rfl rfl rfl) (xa_cons (x_glob e.g_ONE e.r_ONE e.q_ONE) (xa_cons (x_call (ok_times e (n + 0)) hr e.g_times e.F_times.kp (b_times e) (takes_of rfl rfl rfl rfl) (xa_cons (x_var 1) (xa_cons (x_var 1) (xa_nil)))) (xa_nil))))) sc.nd) (xs_cons (xs_set 6 (x_if (xt_val (x_var 4)) (x_var 3) (x_call (ok_times e (n + 0)) hr e.g_times e.F_times.kp (b_times e) (takes_of rfl rfl rfl rfl) (xa_cons (x_var 3) (xa_cons (x_var 3) (xa_nil))))) sc.nd) (xs_cons (xs_set 7 (x_mul (x_lst (xa_cons (x_glob e.g_ZERO e.r_ZERO e.q_ZERO) (xa_nil))) (x_add (x_var 0) (x_int))) sc.nd) (xs_cons (xs_for (xi_rngB e.n_range (x_b2 (call_max2 rfl) (cb_i2 fun _ _ _ => .int _) e.n_max (by decide +kernel) (x_int) (x_sub (x_var 2) (x_int))) (x_add (x_b2 (call_min2 rfl) (cb_i2 fun _ _ _ => .int _) e.n_min (by decide +kernel) (x_var 0) (x_add (x_var 2) (x_int))) (x_int))) (pg_name sc.nd rfl (by first | exact Or.inl rfl | exact Or.inr rfl)) (tg_name) (puts_N) (xs_one (xs_item 7 (x_call (ok_by e (n + 0)) hr e.g_by e.F_by.kp (b_by e) (takes_of rfl rfl rfl rfl) (xa_cons (x_if (xt_eqV 8 (Room.u64 hr) (x_var 2)) (x_var 5) (x_call (ok_minus e (n + 0)) hr e.g_minus e.F_minus.kp (b_minus e) (takes_of rfl rfl rfl rfl) (xa_cons (x_glob e.g_ZERO e.r_ZERO e.q_ZERO) (xa_cons (x_var 1) (xa_nil))))) (xa_cons (x_var 6) (xa_nil)))) (x_var 8))) (passes_of rfl) rfl) (xs_one (xs_ret (x_t1V 7 call_tuple_of cb_tuple e.n_tuple (by decide +kernel)))))))))
/-! ### unladder -/
theorem sc_unladder : FnScope ["n", "ratio", "r"] ["n", "ratio"] (defScope s_unladder) := ⟨rfl, rfl, rfl, by decide +kernel, rfl, by decide +kernel, by decide +kernel⟩
theorem ok_unladder (e : En K mg) (n : Nat) : FnOk P w K mg base (L2.CX P w) (n + 6) e.a_unladder e.fd_unladder ["n", "ratio"] (spF K e.cl (f_unladder)) := have sc := sc_unladder; def_okD e.F_unladder sc fun cdv A outer s H E hr => xs_cons (xs_drop (x_call (ok_check_count e (n + 3)) hr e.g_check_count e.F_check_count.kp (b_check_count e) (takes_of rfl rfl rfl rfl) (xa_cons (x_var 0) (xa_nil)))) (xs_cons (xs_drop (x_call (ok_check_ratio_below_one e (n + 1)) hr e.g_check_ratio_below_one e.F_check_ratio_below_one.kp (b_check_ratio_below_one e) (takes_of rfl rfl rfl rfl) (xa_cons (x_var 0) (xa_cons (x_var 1) (xa_nil))))) (xs_cons (xs_if (xt_eqV 0 (Room.u64 hr) (x_int)) (xs_one (xs_ret (x_tup (xa_cons (x_tup (xa_cons (x_glob e.g_ONE e.r_ONE e.q_ONE) (xa_nil))) (xa_nil))))) (xs_nil)) (xs_one (xs_ret (x_t1 call_tuple_of cb_tuple e.n_tuple (by decide +kernel) (x_lc (own := [("r", 2)]) rfl sc.nd (xi_rng e.n_range (x_add (x_var 0) (x_int))) (blkOk_by (N := ["n", "ratio", "r"]) (sc := defScope s_unladder) (by decide +kernel)) (gw_name (by decide)) (tg_name) (putO_name) (fun _ _ _ _ _ => pg_name sc.nd rfl (by first | exact Or.inl rfl | exact Or.inr rfl)) (fun _ _ _ _ _ => x_call (ok__inverse_row e (n + 0)) hr e.g__inverse_row e.F__inverse_row.kp (b__inverse_row e) takes0 (xa_cons (x_var 0) (xa_cons (x_var 1) (xa_cons (x_var 2) (xa_nil)))))))))))
/-! ### _chance_far_off -/
theorem sc__chance_far_off : FnScope ["row", "i", "far", "r", "a"] ["row", "i", "far"] (defScope s__chance_far_off) := ⟨rfl, rfl, rfl, by decide +kernel, rfl, by decide +kernel, by decide +kernel⟩
theorem ok__chance_far_off (e : En K mg) (n : Nat) : FnOk P w K mg base (L2.CX P w) (n + 5) e.a__chance_far_off e.fd__chance_far_off ["row", "i", "far"] (spF K e.cl (f__chance_far_off)) := have sc := sc__chance_far_off; def_okD e.F__chance_far_off sc fun cdv A outer s H E hr => xs_one (xs_ret (x_call (ok_total e (n + 0)) hr e.g_total e.F_total.kp (b_total e) (takes_of rfl rfl rfl rfl) (xa_cons (x_lcIf (own := [("r", 3), ("a", 4)]) rfl sc.nd (xi_enum e.n_enumerate (x_var 0)) (blkOk_by (N := ["row", "i", "far", "r", "a"]) (sc := defScope s__chance_far_off) (by decide +kernel)) (gw_tup (by decide)) (tg_tup rfl) (putO_tup) (fun _ _ _ _ _ => pg_tup rfl (xg_cons 3 (xg_cons 4 (xg_nil) sc.nd) sc.nd)) (fun _ _ _ _ _ => xt_ge (x_b1 call_abs cb_abs e.n_abs (by decide +kernel) (x_sub (x_var 3) (x_var 1))) (x_var 2)) (fun _ _ _ _ _ => x_var 4)) (xa_nil))))
/-! ### wide -/
theorem sc_wide : FnScope ["n", "ratio", "far", "i"] ["n", "ratio", "far"] (defScope s_wide) := ⟨rfl, rfl, rfl, by decide +kernel, rfl, by decide +kernel, by decide +kernel⟩
theorem ok_wide (e : En K mg) (n : Nat) : FnOk P w K mg base (L2.CX P w) (n + 7) e.a_wide e.fd_wide ["n", "ratio", "far"] (spF K e.cl (f_wide)) := have sc := sc_wide; def_okD e.F_wide sc fun cdv A outer s H E hr => xs_cons (xs_drop (x_call (ok_check_count e (n + 4)) hr e.g_check_count e.F_check_count.kp (b_check_count e) (takes_of rfl rfl rfl rfl) (xa_cons (x_var 0) (xa_nil)))) (xs_cons (xs_drop (x_call (ok_check_ratio e (n + 3)) hr e.g_check_ratio e.F_check_ratio.kp (b_check_ratio e) (takes_of rfl rfl rfl rfl) (xa_cons (x_var 1) (xa_nil)))) (xs_cons (xs_drop (x_call (ok_check_count e (n + 4)) hr e.g_check_count e.F_check_count.kp (b_check_count e) (takes_of rfl rfl rfl rfl) (xa_cons (x_var 2) (xa_nil)))) (xs_one (xs_ret (x_call (ok_greatest e (n + 1)) hr e.g_greatest e.F_greatest.kp (b_greatest e) (takes_of rfl rfl rfl rfl) (xa_cons (x_lc (own := [("i", 3)]) rfl sc.nd (xi_rng e.n_range (x_add (x_var 0) (x_int))) (blkOk_by (N := ["n", "ratio", "far", "i"]) (sc := defScope s_wide) (by decide +kernel)) (gw_name (by decide)) (tg_name) (putO_name) (fun _ _ _ _ _ => pg_name sc.nd rfl (by first | exact Or.inl rfl | exact Or.inr rfl)) (fun _ _ _ _ _ => x_call (ok__chance_far_off e (n + 1)) hr e.g__chance_far_off e.F__chance_far_off.kp (b__chance_far_off e) takes0 (xa_cons (x_call (ok__row e (n + 0)) hr e.g__row e.F__row.kp (b__row e) takes0 (xa_cons (x_var 0) (xa_cons (x_var 1) (xa_cons (x_var 3) (xa_nil))))) (xa_cons (x_var 3) (xa_cons (x_var 2) (xa_nil)))))) (xa_nil)))))))
/-! ### is_chance -/
theorem sc_is_chance : FnScope ["told"] ["told"] (defScope s_is_chance) := ⟨rfl, rfl, rfl, by decide +kernel, rfl, by decide +kernel, by decide +kernel⟩
theorem ok_is_chance (e : En K mg) (n : Nat) : FnOk P w K mg base (L2.CX P w) (n + 3) e.a_is_chance e.fd_is_chance ["told"] (spF K e.cl (f_is_chance)) := have sc := sc_is_chance; def_okD e.F_is_chance sc fun cdv A outer s H E hr => xs_one (xs_ret (x_and (x_call (ok_is_number e (n + 0)) hr e.g_is_number e.F_is_number.kp (b_is_number e) (takes_of rfl rfl rfl rfl) (xa_cons (x_var 0) (xa_nil))) (x_one (x_ge (x_itemV 0 (x_int)) (x_int)))))
/-! ### is_row -/
theorem sc_is_row : FnScope ["told", "a"] ["told"] (defScope s_is_row) := ⟨rfl, rfl, rfl, by decide +kernel, rfl, by decide +kernel, by decide +kernel⟩
theorem ok_is_row (e : En K mg) (tb : TabsB K base mg) (n : Nat) : FnOk P w K mg base (L2.CX P w) (n + 6) e.a_is_row e.fd_is_row ["told"] (spF K e.cl (f_is_row)) := have sc := sc_is_row; def_okT e.F_is_row sc e.t_is_row tb fun cc TT hT TB A outer s H E hr => xs_cons (xs_if (PW.pt (xw_or (xt_not (xt_val (x_isi1V 0 .tuple (bltn_ty (T := .tuple) e.n_tuple (by decide +kernel)) e.n_isinstance))) (xw_one (xt_not (xt_val (x_all (own := [("a", 1)]) rfl hr sc.nd TB hT (xi_seq (x_var 0)) (gsc_by (N := ["told", "a"]) (sc := defScope s_is_row) (by decide +kernel)) (gw_name (by decide)) (tg_name) (putO_name) (fun _ _ _ _ _ _ _ hr => pg_name sc.nd rfl (by first | exact Or.inl rfl | exact Or.inr rfl)) (fun _ _ _ _ _ _ _ hr => x_call (ok_is_chance e (n + 1)) hr e.g_is_chance e.F_is_chance.kp (b_is_chance e) takes0 (xa_cons (x_var 1) (xa_nil))) e.n_all)))))) (xs_one (xs_ret (x_bl))) (xs_nil)) (xs_one (xs_ret (x_eq (Room.u64 hr) (x_call (ok_total e (n + 1)) hr e.g_total e.F_total.kp (b_total e) (takes_of rfl rfl rfl rfl) (xa_cons (x_var 0) (xa_nil))) (x_glob e.g_ONE e.r_ONE e.q_ONE))))
/-! ### is_scheme -/
theorem sc_is_scheme : FnScope ["told", "row"] ["told"] (defScope s_is_scheme) := ⟨rfl, rfl, rfl, by decide +kernel, rfl, by decide +kernel, by decide +kernel⟩
theorem ok_is_scheme (e : En K mg) (tb : TabsB K base mg) (n : Nat) : FnOk P w K mg base (L2.CX P w) (n + 8) e.a_is_scheme e.fd_is_scheme ["told"] (spF K e.cl (f_is_scheme)) := have sc := sc_is_scheme; def_okT e.F_is_scheme sc e.t_is_scheme tb fun cc TT hT TB A outer s H E hr => xs_cons (xs_if (PW.pt (xw_or (xt_not (xt_val (x_isi1V 0 .tuple (bltn_ty (T := .tuple) e.n_tuple (by decide +kernel)) e.n_isinstance))) (xw_one (xt_not (xt_val (x_all (own := [("row", 1)]) rfl hr sc.nd TB hT (xi_seq (x_var 0)) (gsc_by (N := ["told", "row"]) (sc := defScope s_is_scheme) (by decide +kernel)) (gw_name (by decide)) (tg_name) (putO_name) (fun _ _ _ _ _ _ _ hr => pg_name sc.nd rfl (by first | exact Or.inl rfl | exact Or.inr rfl)) (fun _ _ _ _ _ _ _ hr => x_call (ok_is_row e tb (n + 0)) hr e.g_is_row e.F_is_row.kp (b_is_row e) takes0 (xa_cons (x_var 1) (xa_nil))) e.n_all)))))) (xs_one (xs_ret (x_bl))) (xs_nil)) (xs_one (xs_ret (x_and (x_gt (x_b1V 0 call_len cb_len e.n_len (by decide +kernel)) (x_int)) (x_one (x_all (own := [("row", 1)]) rfl hr sc.nd TB hT (xi_seq (x_var 0)) (gsc_by (N := ["told", "row"]) (sc := defScope s_is_scheme) (by decide +kernel)) (gw_name (by decide)) (tg_name) (putO_name) (fun _ _ _ _ _ _ _ hr => pg_name sc.nd rfl (by first | exact Or.inl rfl | exact Or.inr rfl)) (fun _ _ _ _ _ _ _ hr => x_eq (Room.u64 hr) (x_b1V 1 call_len cb_len e.n_len (by decide +kernel)) (x_b1 call_len cb_len e.n_len (by decide +kernel) (x_itemV 0 (x_int)))) e.n_all)))))
/-! ### check_scheme -/
theorem sc_check_scheme : FnScope ["told"] ["told"] (defScope s_check_scheme) := ⟨rfl, rfl, rfl, by decide +kernel, rfl, by decide +kernel, by decide +kernel⟩
theorem ok_check_scheme (e : En K mg) (tb : TabsB K base mg) (n : Nat) : FnOk P w K mg base (L2.CX P w) (n + 9) e.a_check_scheme e.fd_check_scheme ["told"] (spF K e.cl (f_check_scheme)) := have sc := sc_check_scheme; def_okD e.F_check_scheme sc fun cdv A outer s H E hr => xs_one (xs_if (xt_not (xt_val (x_call (ok_is_scheme e tb (n + 0)) hr e.g_is_scheme e.F_is_scheme.kp (b_is_scheme e) (takes_of rfl rfl rfl rfl) (xa_cons (x_var 0) (xa_nil))))) (xs_one (xs_raise 2 e.T_InvalidScheme e.c_InvalidScheme hr rfl (takes_of rfl rfl rfl rfl) (x_var 0))) (xs_nil))
/-! ### read_by -/
theorem sc_read_by : FnScope ["scheme", "mixed", "answers", "columns", "row", "column"] ["scheme", "mixed"] (defScope s_read_by) := ⟨rfl, rfl, rfl, by decide +kernel, rfl, by decide +kernel, by decide +kernel⟩
theorem ok_read_by (e : En K mg) (tb : TabsB K base mg) (n : Nat) : FnOk P w K mg base (L2.CX P w) (n + 10) e.a_read_by e.fd_read_by ["scheme", "mixed"] (spF K e.cl (f_read_by)) := have sc := sc_read_by; def_okD e.F_read_by sc fun cdv A outer s H E hr => xs_cons (xs_drop (x_call (ok_check_scheme e tb (n + 0)) hr e.g_check_scheme e.F_check_scheme.kp (b_check_scheme e) (takes_of rfl rfl rfl rfl) (xa_cons (x_var 0) (xa_nil)))) (xs_cons (xs_drop (x_call (ok_check_scheme e tb (n + 0)) hr e.g_check_scheme e.F_check_scheme.kp (b_check_scheme e) (takes_of rfl rfl rfl rfl) (xa_cons (x_var 1) (xa_nil)))) (xs_cons (xs_set 2 (x_b1 call_len cb_len e.n_len (by decide +kernel) (x_itemV 0 (x_int))) sc.nd) (xs_cons (xs_if (xt_neV 2 (Room.u64 hr) (x_b1V 1 call_len cb_len e.n_len (by decide +kernel))) (xs_one (xs_raise 4 e.T_InvalidPair e.c_InvalidPair hr rfl (takes_of rfl rfl rfl rfl) (x_tup (xa_cons (x_var 2) (xa_cons (x_b1V 1 call_len cb_len e.n_len (by decide +kernel)) (xa_nil)))))) (xs_nil)) (xs_cons (xs_set 3 (x_listZ rfl e.n_list (xz_zipS e.n_zip (x_var 1))) sc.nd) (xs_one (xs_ret (x_t1 call_tuple_of cb_tuple e.n_tuple (by decide +kernel) (x_lc (own := [("row", 4)]) rfl sc.nd (xi_seq (x_var 0)) (blkOk_by (N := ["scheme", "mixed", "answers", "columns", "row", "column"]) (sc := defScope s_read_by) (by decide +kernel)) (gw_name (by decide)) (tg_name) (putO_name) (fun _ _ _ _ _ => pg_name sc.nd rfl (by first | exact Or.inl rfl | exact Or.inr rfl)) (fun _ _ _ _ _ => x_t1 call_tuple_of cb_tuple e.n_tuple (by decide +kernel) (x_lc (own := [("column", 5)]) rfl sc.nd (xi_seq (x_var 3)) (blkOk_by (by kernel_rfl)) (gw_name (by decide)) (tg_name) (putO_name) (fun _ _ _ _ _ => pg_name sc.nd rfl (by first | exact Or.inl rfl | exact Or.inr rfl)) (fun _ _ _ _ _ => x_call (ok_dot e (n + 4)) hr e.g_dot e.F_dot.kp (b_dot e) takes0 (xa_cons (x_var 4) (xa_cons (x_var 5) (xa_nil))))))))))))))
/-! ### _law_deck -/
theorem sc__law_deck : FnScope ["_law_script", "_law_k", "_law_cell", "_law_stir"] ["_law_script", "_law_k"] (defScope s__law_deck) := ⟨rfl, rfl, rfl, by decide +kernel, rfl, by decide +kernel, by decide +kernel⟩
theorem ok__law_deck (e : En K mg) (n : Nat) : FnOk P w K mg base (L2.CX P w) (n + 1) e.a__law_deck e.fd__law_deck ["_law_script", "_law_k"] (spF K e.cl (f__law_deck)) := have sc := sc__law_deck; def_okD e.F__law_deck sc fun cdv A outer s H E hr => xs_cons (xs_set 2 (x_int) sc.nd) (xs_cons (xs_if (xt_lt (x_var 1) (x_b1V 0 call_len cb_len e.n_len (by decide +kernel))) (xs_one (xs_set 2 (x_itemV 0 (x_var 1)) sc.nd)) (xs_nil)) (xs_cons (xs_set 3 (x_mod (x_t1 call_int1 cb_int e.n_int (by decide +kernel) (x_add (x_add (x_var 2) (x_mul (x_int) (x_var 1))) (x_int))) (x_int)) sc.nd) (xs_cons (xs_set 3 (x_mod (x_t1 call_int1 cb_int e.n_int (by decide +kernel) (x_add (x_add (x_mul (x_mul (x_var 3) (x_var 3)) (x_var 3)) (x_mul (x_int) (x_var 1))) (x_int))) (x_int)) sc.nd) (xs_cons (xs_if (xt_lt (x_var 2) (x_pow (x_int) (x_int))) (xs_one (xs_ret (x_lst (xa_cons (x_int) (xa_cons (x_var 3) (xa_nil)))))) (xs_nil)) (xs_one (xs_ret (x_lst (xa_cons (x_sub (x_var 2) (x_pow (x_int) (x_int))) (xa_cons (x_var 3) (xa_nil))))))))))
/-! ### _law_take -/
theorem sc__law_take : FnScope ["_law_deck_here", "_law_many", "_law_taken"] ["_law_deck_here", "_law_many"] (defScope s__law_take) := ⟨rfl, rfl, rfl, by decide +kernel, rfl, by decide +kernel, by decide +kernel⟩
theorem ok__law_take (e : En K mg) (n : Nat) : FnOk P w K mg base (L2.CX P w) (n + 1) e.a__law_take e.fd__law_take ["_law_deck_here", "_law_many"] (spF K e.cl (f__law_take)) := have sc := sc__law_take; def_okD e.F__law_take sc fun cdv A outer s H E hr => xs_cons (xs_if (xt_gt (x_itemV 0 (x_int)) (x_int)) (xs_cons (xs_set 2 (x_mod (x_t1 call_int1 cb_int e.n_int (by decide +kernel) (x_itemV 0 (x_int))) (x_var 1)) sc.nd) (xs_cons (xs_item 0 (x_div (x_itemV 0 (x_int)) (x_var 1)) (x_int)) (xs_one (xs_retV 2)))) (xs_nil)) (xs_cons (xs_item 0 (x_mod (x_t1 call_int1 cb_int e.n_int (by decide +kernel) (x_add (x_mul (x_itemV 0 (x_int)) (x_int)) (x_int))) (x_pow (x_int) (x_int))) (x_int)) (xs_one (xs_ret (x_mod (x_div (x_itemV 0 (x_int)) (x_pow (x_int) (x_int))) (x_var 1)))))
/-! ### _law_gcd -/
theorem sc__law_gcd : FnScope ["_law_u", "_law_v"] ["_law_u", "_law_v"] (defScope s__law_gcd) := ⟨rfl, rfl, rfl, by decide +kernel, rfl, by decide +kernel, by decide +kernel⟩
theorem ok__law_gcd (e : En K mg) (n : Nat) : FnOk P w K mg base (L2.CX P w) (n + 1) e.a__law_gcd e.fd__law_gcd ["_law_u", "_law_v"] (spF K e.cl (f__law_gcd)) := have sc := sc__law_gcd; def_okD e.F__law_gcd sc fun cdv A outer s H E hr => xs_cons (xs_while (xt_neV 1 (Room.u64 hr) (x_int)) (xs_one (xs_par 0 1 (xa_cons (x_var 1) (xa_cons (x_mod (x_t1V 0 call_int1 cb_int e.n_int (by decide +kernel)) (x_var 1)) (xa_nil))) rfl sc.nd)) (passes_of rfl)) (xs_one (xs_retV 0))
/-! ### _law_pair -/
theorem sc__law_pair : FnScope ["_law_upper", "_law_lower", "_law_common"] ["_law_upper", "_law_lower"] (defScope s__law_pair) := ⟨rfl, rfl, rfl, by decide +kernel, rfl, by decide +kernel, by decide +kernel⟩
theorem ok__law_pair (e : En K mg) (n : Nat) : FnOk P w K mg base (L2.CX P w) (n + 2) e.a__law_pair e.fd__law_pair ["_law_upper", "_law_lower"] (spF K e.cl (f__law_pair)) := have sc := sc__law_pair; def_okD e.F__law_pair sc fun cdv A outer s H E hr => xs_cons (xs_set 2 (x_call (ok__law_gcd e (n + 0)) hr e.g__law_gcd e.F__law_gcd.kp (b__law_gcd e) (takes_of rfl rfl rfl rfl) (xa_cons (x_b1V 0 call_abs cb_abs e.n_abs (by decide +kernel)) (xa_cons (x_b1V 1 call_abs cb_abs e.n_abs (by decide +kernel)) (xa_nil)))) sc.nd) (xs_cons (xs_if (xt_lt (x_var 1) (x_int)) (xs_one (xs_set 2 (x_neg (x_var 2)) sc.nd)) (xs_nil)) (xs_one (xs_ret (x_tup (xa_cons (x_div (x_var 0) (x_var 2)) (xa_cons (x_div (x_var 1) (x_var 2)) (xa_nil)))))))
/-! ### _law_plus -/
theorem sc__law_plus : FnScope ["_law_u", "_law_v"] ["_law_u", "_law_v"] (defScope s__law_plus) := ⟨rfl, rfl, rfl, by decide +kernel, rfl, by decide +kernel, by decide +kernel⟩
theorem ok__law_plus (e : En K mg) (n : Nat) : FnOk P w K mg base (L2.CX P w) (n + 3) e.a__law_plus e.fd__law_plus ["_law_u", "_law_v"] (spF K e.cl (f__law_plus)) := have sc := sc__law_plus; def_okD e.F__law_plus sc fun cdv A outer s H E hr => xs_one (xs_ret (x_call (ok__law_pair e (n + 0)) hr e.g__law_pair e.F__law_pair.kp (b__law_pair e) (takes_of rfl rfl rfl rfl) (xa_cons (x_add (x_mul (x_itemV 0 (x_int)) (x_itemV 1 (x_int))) (x_mul (x_itemV 1 (x_int)) (x_itemV 0 (x_int)))) (xa_cons (x_mul (x_itemV 0 (x_int)) (x_itemV 1 (x_int))) (xa_nil)))))
/-! ### _law_times -/
theorem sc__law_times : FnScope ["_law_u", "_law_v"] ["_law_u", "_law_v"] (defScope s__law_times) := ⟨rfl, rfl, rfl, by decide +kernel, rfl, by decide +kernel, by decide +kernel⟩
theorem ok__law_times (e : En K mg) (n : Nat) : FnOk P w K mg base (L2.CX P w) (n + 3) e.a__law_times e.fd__law_times ["_law_u", "_law_v"] (spF K e.cl (f__law_times)) := have sc := sc__law_times; def_okD e.F__law_times sc fun cdv A outer s H E hr => xs_one (xs_ret (x_call (ok__law_pair e (n + 0)) hr e.g__law_pair e.F__law_pair.kp (b__law_pair e) (takes_of rfl rfl rfl rfl) (xa_cons (x_mul (x_itemV 0 (x_int)) (x_itemV 1 (x_int))) (xa_cons (x_mul (x_itemV 0 (x_int)) (x_itemV 1 (x_int))) (xa_nil)))))
/-! ### _law_less -/
theorem sc__law_less : FnScope ["_law_u", "_law_v"] ["_law_u", "_law_v"] (defScope s__law_less) := ⟨rfl, rfl, rfl, by decide +kernel, rfl, by decide +kernel, by decide +kernel⟩
theorem ok__law_less (e : En K mg) (n : Nat) : FnOk P w K mg base (L2.CX P w) (n + 1) e.a__law_less e.fd__law_less ["_law_u", "_law_v"] (spF K e.cl (f__law_less)) := have sc := sc__law_less; def_okD e.F__law_less sc fun cdv A outer s H E hr => xs_one (xs_ret (x_lt (x_sub (x_mul (x_itemV 0 (x_int)) (x_itemV 1 (x_int))) (x_mul (x_itemV 1 (x_int)) (x_itemV 0 (x_int)))) (x_int)))
/-! ### _law_same -/
theorem sc__law_same : FnScope ["_law_found", "_law_due", "_law_k"] ["_law_found", "_law_due"] (defScope s__law_same) := ⟨rfl, rfl, rfl, by decide +kernel, rfl, by decide +kernel, by decide +kernel⟩
theorem ok__law_same (e : En K mg) (n : Nat) : ∀ j, FnOk P w K mg base (L2.CX P w) (n + 1 + j) e.a__law_same e.fd__law_same ["_law_found", "_law_due"] (spF K e.cl (f__law_same j))
  | 0 => fn_no
  | j + 1 => have ih := ok__law_same e n j; have sc := sc__law_same; def_okD e.F__law_same sc fun cdv A outer s H E hr => xs_cons (xs_if (xt_val (x_isi2V 1 .tuple .list (bltn_ty (T := .tuple) e.n_tuple (by decide +kernel)) (bltn_ty (T := .list) e.n_list (by decide +kernel)) e.n_isinstance)) (xs_cons (xs_if (PW.pt (xw_or (xt_ne (Room.u64 hr) (x_isi1V 0 .tuple (bltn_ty (T := .tuple) e.n_tuple (by decide +kernel)) e.n_isinstance) (x_isi1V 1 .tuple (bltn_ty (T := .tuple) e.n_tuple (by decide +kernel)) e.n_isinstance)) (xw_one (xt_ne (Room.u64 hr) (x_isi1V 0 .list (bltn_ty (T := .list) e.n_list (by decide +kernel)) e.n_isinstance) (x_isi1V 1 .list (bltn_ty (T := .list) e.n_list (by decide +kernel)) e.n_isinstance))))) (xs_one (xs_ret (x_bl))) (xs_nil)) (xs_cons (xs_if (xt_ne (Room.u64 hr) (x_b1V 0 call_len cb_len e.n_len (by decide +kernel)) (x_b1V 1 call_len cb_len e.n_len (by decide +kernel))) (xs_one (xs_ret (x_bl))) (xs_nil)) (xs_one (xs_ret (x_eq (Room.u64 hr) (x_lcIf (own := [("_law_k", 2)]) rfl sc.nd (xi_rng e.n_range (x_b1V 1 call_len cb_len e.n_len (by decide +kernel))) (blkOk_by (N := ["_law_found", "_law_due", "_law_k"]) (sc := defScope s__law_same) (by decide +kernel)) (gw_name (by decide)) (tg_name) (putO_name) (fun _ _ _ _ _ => pg_name sc.nd rfl (by first | exact Or.inl rfl | exact Or.inr rfl)) (fun _ _ _ _ _ => xt_not (xt_val (x_call ih hr e.g__law_same e.F__law_same.kp (b__law_same e) takes0 (xa_cons (x_itemV 0 (x_var 2)) (xa_cons (x_itemV 1 (x_var 2)) (xa_nil)))))) (fun _ _ _ _ _ => x_var 2)) (x_lst (xa_nil))))))) (xs_nil)) (xs_cons (xs_if (xt_is (x_var 1) (x_non)) (xs_one (xs_ret (x_is (x_var 0) (x_non)))) (xs_nil)) (xs_cons (xs_if (xt_val (x_isi1V 1 .str (bltn_ty (T := .str) e.n_str (by decide +kernel)) e.n_isinstance)) (xs_one (xs_ret (x_and (x_isi1V 0 .str (bltn_ty (T := .str) e.n_str (by decide +kernel)) e.n_isinstance) (x_one (x_eqV 0 (Room.u64 hr) (x_var 1)))))) (xs_nil)) (xs_cons (xs_if (PW.pt (xw_or (xt_val (x_isi1V 1 .bool (bltn_ty (T := .bool) e.n_bool (by decide +kernel)) e.n_isinstance)) (xw_one (xt_val (x_isi1V 0 .bool (bltn_ty (T := .bool) e.n_bool (by decide +kernel)) e.n_isinstance))))) (xs_one (xs_ret (x_and (x_isi1V 1 .bool (bltn_ty (T := .bool) e.n_bool (by decide +kernel)) e.n_isinstance) (x_and (x_isi1V 0 .bool (bltn_ty (T := .bool) e.n_bool (by decide +kernel)) e.n_isinstance) (x_one (x_eqV 0 (Room.u64 hr) (x_var 1))))))) (xs_nil)) (xs_one (xs_ret (x_and (x_isi1V 0 .int (bltn_ty (T := .int) e.n_int (by decide +kernel)) e.n_isinstance) (x_one (x_eqV 0 (Room.u64 hr) (x_var 1)))))))))
/-! ### _law_weights -/
theorem sc__law_weights : FnScope ["_law_deck_here", "_law_many", "_law_most", "_law_gaps", "_law_found", "_law_at", "_law_k"] ["_law_deck_here", "_law_many"] (defScope s__law_weights) := ⟨rfl, rfl, rfl, by decide +kernel, rfl, by decide +kernel, by decide +kernel⟩
theorem ok__law_weights (e : En K mg) (n : Nat) : FnOk P w K mg base (L2.CX P w) (n + 2) e.a__law_weights e.fd__law_weights ["_law_deck_here", "_law_many"] (spF K e.cl (f__law_weights)) := have sc := sc__law_weights; def_okD e.F__law_weights sc fun cdv A outer s H E hr => xs_cons (xs_unp [2, 3] (x_tup (xa_cons (x_item (x_lst (xa_cons (x_int) (xa_cons (x_int) (xa_cons (x_int) (xa_cons (x_pow (x_int) (x_int)) (xa_nil)))))) (x_callA (ok__law_take e (n + 0)) hr e.g__law_take e.F__law_take.kp (b__law_take e) (takes_of rfl rfl rfl rfl) (xg_io 0 (xg_v (x_int) (xg_end))))) (xa_cons (x_callA (ok__law_take e (n + 0)) hr e.g__law_take e.F__law_take.kp (b__law_take e) (takes_of rfl rfl rfl rfl) (xg_io 0 (xg_v (x_int) (xg_end)))) (xa_nil)))) (xg_cons 2 (xg_cons 3 (xg_nil) sc.nd) sc.nd) rfl) (xs_cons (xs_setLc 4 (own := [("_law_k", 6)]) rfl sc.nd (xi_rng e.n_range (x_var 1)) (blkOk_by (N := ["_law_deck_here", "_law_many", "_law_most", "_law_gaps", "_law_found", "_law_at", "_law_k"]) (sc := defScope s__law_weights) (by decide +kernel)) (gw_name (by decide)) (tg_name) (putO_name) (fun _ _ _ _ _ => pg_name sc.nd rfl (by first | exact Or.inl rfl | exact Or.inr rfl)) (fun _ _ _ _ _ => x_add (x_callA (ok__law_take e (n + 0)) hr e.g__law_take e.F__law_take.kp (b__law_take e) takes0 (xg_io 0 (xg_v (x_var 2) (xg_end)))) (x_t1 call_int1 cb_int e.n_int (by decide +kernel) (x_gt (x_var 3) (x_int))))) (xs_cons (xs_if (PW.pt (xw_and (xt_eqV 3 (Room.u64 hr) (x_int)) (xw_one (xt_gt (x_var 1) (x_int))))) (xs_one (xs_item 4 (x_int) (x_callA (ok__law_take e (n + 0)) hr e.g__law_take e.F__law_take.kp (b__law_take e) (takes_of rfl rfl rfl rfl) (xg_io 0 (xg_v (x_var 1) (xg_end)))))) (xs_nil)) (xs_cons (xs_set 5 (x_callA (ok__law_take e (n + 0)) hr e.g__law_take e.F__law_take.kp (b__law_take e) (takes_of rfl rfl rfl rfl) (xg_io 0 (xg_v (x_var 1) (xg_end)))) sc.nd) (xs_cons (xs_if (xt_eq (Room.u64 hr) (x_b1V 4 (cr_sum rfl) cb_sum e.n_sum (by decide +kernel)) (x_int)) (xs_one (xs_item 4 (x_add (x_int) (x_callA (ok__law_take e (n + 0)) hr e.g__law_take e.F__law_take.kp (b__law_take e) (takes_of rfl rfl rfl rfl) (xg_io 0 (xg_v (x_int) (xg_end))))) (x_var 5))) (xs_nil)) (xs_one (xs_retV 4))))))
/-! ### _law_shares -/
theorem sc__law_shares : FnScope ["_law_weights_here", "_law_whole", "_law_weight"] ["_law_weights_here"] (defScope s__law_shares) := ⟨rfl, rfl, rfl, by decide +kernel, rfl, by decide +kernel, by decide +kernel⟩
theorem ok__law_shares (e : En K mg) (n : Nat) : FnOk P w K mg base (L2.CX P w) (n + 3) e.a__law_shares e.fd__law_shares ["_law_weights_here"] (spF K e.cl (f__law_shares)) := have sc := sc__law_shares; def_okD e.F__law_shares sc fun cdv A outer s H E hr => xs_cons (xs_set 1 (x_b1V 0 (cr_sum rfl) cb_sum e.n_sum (by decide +kernel)) sc.nd) (xs_one (xs_ret (x_t1 call_tuple_of cb_tuple e.n_tuple (by decide +kernel) (x_lc (own := [("_law_weight", 2)]) rfl sc.nd (xi_seq (x_var 0)) (blkOk_by (N := ["_law_weights_here", "_law_whole", "_law_weight"]) (sc := defScope s__law_shares) (by decide +kernel)) (gw_name (by decide)) (tg_name) (putO_name) (fun _ _ _ _ _ => pg_name sc.nd rfl (by first | exact Or.inl rfl | exact Or.inr rfl)) (fun _ _ _ _ _ => x_call (ok__law_pair e (n + 0)) hr e.g__law_pair e.F__law_pair.kp (b__law_pair e) takes0 (xa_cons (x_var 2) (xa_cons (x_var 1) (xa_nil))))))))
/-! ### _law_ratio -/
theorem sc__law_ratio : FnScope ["_law_deck_here", "_law_lower", "_law_far", "_law_some", "_law_upper"] ["_law_deck_here"] (defScope s__law_ratio) := ⟨rfl, rfl, rfl, by decide +kernel, rfl, by decide +kernel, by decide +kernel⟩
theorem ok__law_ratio (e : En K mg) (n : Nat) : FnOk P w K mg base (L2.CX P w) (n + 3) e.a__law_ratio e.fd__law_ratio ["_law_deck_here"] (spF K e.cl (f__law_ratio)) := have sc := sc__law_ratio; def_okD e.F__law_ratio sc fun cdv A outer s H E hr => xs_cons (xs_set 1 (x_add (x_int) (x_callA (ok__law_take e (n + 1)) hr e.g__law_take e.F__law_take.kp (b__law_take e) (takes_of rfl rfl rfl rfl) (xg_io 0 (xg_v (x_int) (xg_end))))) sc.nd) (xs_cons (xs_set 2 (x_add (x_int) (x_callA (ok__law_take e (n + 1)) hr e.g__law_take e.F__law_take.kp (b__law_take e) (takes_of rfl rfl rfl rfl) (xg_io 0 (xg_v (x_int) (xg_end))))) sc.nd) (xs_cons (xs_set 3 (x_lst (xa_cons (x_tup (xa_cons (x_add (x_int) (x_callA (ok__law_take e (n + 1)) hr e.g__law_take e.F__law_take.kp (b__law_take e) (takes_of rfl rfl rfl rfl) (xg_io 0 (xg_v (x_sub (x_var 1) (x_int)) (xg_end))))) (xa_cons (x_var 1) (xa_nil)))) (xa_cons (x_tup (xa_cons (x_int) (xa_cons (x_var 2) (xa_nil)))) (xa_cons (x_tup (xa_cons (x_var 2) (xa_cons (x_add (x_var 2) (x_int)) (xa_nil)))) (xa_cons (x_tup (xa_cons (x_int) (xa_cons (x_int) (xa_nil)))) (xa_cons (x_tup (xa_cons (x_add (x_int) (x_callA (ok__law_take e (n + 1)) hr e.g__law_take e.F__law_take.kp (b__law_take e) (takes_of rfl rfl rfl rfl) (xg_io 0 (xg_v (x_sub (x_var 2) (x_int)) (xg_end))))) (xa_cons (x_var 2) (xa_nil)))) (xa_nil))))))) sc.nd) (xs_cons (xs_unp [4, 1] (x_itemV 3 (x_callA (ok__law_take e (n + 1)) hr e.g__law_take e.F__law_take.kp (b__law_take e) (takes_of rfl rfl rfl rfl) (xg_io 0 (xg_v (x_int) (xg_end))))) (xg_cons 4 (xg_cons 1 (xg_nil) sc.nd) sc.nd) rfl) (xs_one (xs_ret (x_call (ok__law_pair e (n + 0)) hr e.g__law_pair e.F__law_pair.kp (b__law_pair e) (takes_of rfl rfl rfl rfl) (xa_cons (x_var 4) (xa_cons (x_var 1) (xa_nil)))))))))
/-! ### _law_product -/
theorem sc__law_product : FnScope ["_law_first", "_law_second", "_law_found", "_law_line", "_law_cells", "_law_s", "_law_whole", "_law_k"] ["_law_first", "_law_second"] (defScope s__law_product) := ⟨rfl, rfl, rfl, by decide +kernel, rfl, by decide +kernel, by decide +kernel⟩
theorem ok__law_product (e : En K mg) (n : Nat) : FnOk P w K mg base (L2.CX P w) (n + 4) e.a__law_product e.fd__law_product ["_law_first", "_law_second"] (spF K e.cl (f__law_product)) := have sc := sc__law_product; def_okD e.F__law_product sc fun cdv A outer s H E hr => xs_cons (xs_set 2 (x_lst (xa_nil)) sc.nd) (xs_cons (xs_for (xi_seq (x_var 0)) (pg_name sc.nd rfl (by first | exact Or.inl rfl | exact Or.inr rfl)) (tg_name) (puts_N) (xs_cons (xs_set 4 (x_lst (xa_nil)) sc.nd) (xs_cons (xs_for (xi_rng e.n_range (x_b1 call_len cb_len e.n_len (by decide +kernel) (x_itemV 1 (x_int)))) (pg_name sc.nd rfl (by first | exact Or.inl rfl | exact Or.inr rfl)) (tg_name) (puts_N) (xs_cons (xs_set 6 (x_tup (xa_cons (x_int) (xa_cons (x_int) (xa_nil)))) sc.nd) (xs_cons (xs_for (xi_rng e.n_range (x_b1V 3 call_len cb_len e.n_len (by decide +kernel))) (pg_name sc.nd rfl (by first | exact Or.inl rfl | exact Or.inr rfl)) (tg_name) (puts_N) (xs_one (xs_if (PW.pt (xw_and (xt_ne (Room.u64 hr) (x_item (x_itemV 3 (x_var 7)) (x_int)) (x_int)) (xw_one (xt_ne (Room.u64 hr) (x_item (x_item (x_itemV 1 (x_var 7)) (x_var 5)) (x_int)) (x_int))))) (xs_one (xs_set 6 (x_call (ok__law_plus e (n + 0)) hr e.g__law_plus e.F__law_plus.kp (b__law_plus e) (takes_of rfl rfl rfl rfl) (xa_cons (x_var 6) (xa_cons (x_call (ok__law_times e (n + 0)) hr e.g__law_times e.F__law_times.kp (b__law_times e) (takes_of rfl rfl rfl rfl) (xa_cons (x_itemV 3 (x_var 7)) (xa_cons (x_item (x_itemV 1 (x_var 7)) (x_var 5)) (xa_nil)))) (xa_nil)))) sc.nd)) (xs_nil))) (passes_of rfl) rfl) (xs_one (xs_app 4 (x_var 6))))) (passes_of rfl) rfl) (xs_one (xs_app 2 (x_t1V 4 call_tuple_of cb_tuple e.n_tuple (by decide +kernel)))))) (passes_of rfl) rfl) (xs_one (xs_ret (x_t1V 2 call_tuple_of cb_tuple e.n_tuple (by decide +kernel)))))
/-! ### _law_lowest -/
theorem sc__law_lowest : FnScope ["_law_cell", "_law_odd", "_law_part"] ["_law_cell"] (defScope s__law_lowest) := ⟨rfl, rfl, rfl, by decide +kernel, rfl, by decide +kernel, by decide +kernel⟩
theorem ok__law_lowest (e : En K mg) (n : Nat) : FnOk P w K mg base (L2.CX P w) (n + 3) e.a__law_lowest e.fd__law_lowest ["_law_cell"] (spF K e.cl (f__law_lowest)) := have sc := sc__law_lowest; def_okD e.F__law_lowest sc fun cdv A outer s H E hr => xs_cons (xs_setLcIf 1 (own := [("_law_part", 2)]) rfl sc.nd (xi_seq (x_var 0)) (blkOk_by (N := ["_law_cell", "_law_odd", "_law_part"]) (sc := defScope s__law_lowest) (by decide +kernel)) (gw_name (by decide)) (tg_name) (putO_name) (fun _ _ _ _ _ => pg_name sc.nd rfl (by first | exact Or.inl rfl | exact Or.inr rfl)) (fun _ _ _ _ _ => PW.pt (xw_or (xt_not (xt_val (x_isi1V 2 .int (bltn_ty (T := .int) e.n_int (by decide +kernel)) e.n_isinstance))) (xw_one (xt_val (x_isi1V 2 .bool (bltn_ty (T := .bool) e.n_bool (by decide +kernel)) e.n_isinstance))))) (fun _ _ _ _ _ => x_var 2)) (xs_one (xs_ret (x_if (PW.pt (xw_or (xt_neV 1 (Room.u64 hr) (x_lst (xa_nil))) (xw_one (xt_eq (Room.u64 hr) (x_itemV 0 (x_int)) (x_int))))) (x_tup (xa_nil)) (x_call (ok__law_pair e (n + 0)) hr e.g__law_pair e.F__law_pair.kp (b__law_pair e) (takes_of rfl rfl rfl rfl) (xa_cons (x_itemV 0 (x_int)) (xa_cons (x_itemV 0 (x_int)) (xa_nil)))))))
/-! ### _law_are_numbers -/
theorem sc__law_are_numbers : FnScope ["_law_plan", "_law_many", "_law_line", "_law_cell"] ["_law_plan", "_law_many"] (defScope s__law_are_numbers) := ⟨rfl, rfl, rfl, by decide +kernel, rfl, by decide +kernel, by decide +kernel⟩
theorem ok__law_are_numbers (e : En K mg) (n : Nat) : FnOk P w K mg base (L2.CX P w) (n + 10) e.a__law_are_numbers e.fd__law_are_numbers ["_law_plan", "_law_many"] (spF K e.cl (f__law_are_numbers)) := have sc := sc__law_are_numbers; def_okD e.F__law_are_numbers sc fun cdv A outer s H E hr => xs_cons (xs_if (PW.pt (xw_or (xt_not (xt_val (x_isi1V 0 .tuple (bltn_ty (T := .tuple) e.n_tuple (by decide +kernel)) e.n_isinstance))) (xw_one (xt_ne (Room.u64 hr) (x_b1V 0 call_len cb_len e.n_len (by decide +kernel)) (x_var 1))))) (xs_one (xs_ret (x_bl))) (xs_nil)) (xs_cons (xs_for (xi_seq (x_var 0)) (pg_name sc.nd rfl (by first | exact Or.inl rfl | exact Or.inr rfl)) (tg_name) (puts_N) (xs_cons (xs_if (PW.pt (xw_or (xt_not (xt_val (x_isi1V 2 .tuple (bltn_ty (T := .tuple) e.n_tuple (by decide +kernel)) e.n_isinstance))) (xw_one (xt_ne (Room.u64 hr) (x_b1V 2 call_len cb_len e.n_len (by decide +kernel)) (x_var 1))))) (xs_one (xs_ret (x_bl))) (xs_nil)) (xs_one (xs_for (xi_seq (x_var 2)) (pg_name sc.nd rfl (by first | exact Or.inl rfl | exact Or.inr rfl)) (tg_name) (puts_N) (xs_one (xs_if (PW.pt (xw_or (xt_not (xt_val (x_isi1V 3 .tuple (bltn_ty (T := .tuple) e.n_tuple (by decide +kernel)) e.n_isinstance))) (xw_or (xt_ne (Room.u64 hr) (x_b1V 3 call_len cb_len e.n_len (by decide +kernel)) (x_int)) (xw_one (xt_not (xt_val (x_call (ok__law_same e (n + 0) 8) hr e.g__law_same e.F__law_same.kp (b__law_same e) (takes_of rfl rfl rfl rfl) (xa_cons (x_var 3) (xa_cons (x_call (ok__law_lowest e (n + 6)) hr e.g__law_lowest e.F__law_lowest.kp (b__law_lowest e) (takes_of rfl rfl rfl rfl) (xa_cons (x_var 3) (xa_nil))) (xa_nil)))))))))) (xs_one (xs_ret (x_bl))) (xs_nil))) (passes_of rfl) rfl))) (passes_of rfl) rfl) (xs_one (xs_ret (x_bl))))
/-! ### _law_unit -/
theorem sc__law_unit : FnScope ["_law_many", "_law_j", "_law_s"] ["_law_many", "_law_j"] (defScope s__law_unit) := ⟨rfl, rfl, rfl, by decide +kernel, rfl, by decide +kernel, by decide +kernel⟩
theorem ok__law_unit (e : En K mg) (n : Nat) : FnOk P w K mg base (L2.CX P w) (n + 1) e.a__law_unit e.fd__law_unit ["_law_many", "_law_j"] (spF K e.cl (f__law_unit)) := have sc := sc__law_unit; def_okD e.F__law_unit sc fun cdv A outer s H E hr => xs_one (xs_ret (x_t1 call_tuple_of cb_tuple e.n_tuple (by decide +kernel) (x_lc (own := [("_law_s", 2)]) rfl sc.nd (xi_rng e.n_range (x_add (x_var 0) (x_int))) (blkOk_by (N := ["_law_many", "_law_j", "_law_s"]) (sc := defScope s__law_unit) (by decide +kernel)) (gw_name (by decide)) (tg_name) (putO_name) (fun _ _ _ _ _ => pg_name sc.nd rfl (by first | exact Or.inl rfl | exact Or.inr rfl)) (fun _ _ _ _ _ => x_tup (xa_cons (x_t1 call_int1 cb_int e.n_int (by decide +kernel) (x_eqV 1 (Room.u64 hr) (x_var 2))) (xa_cons (x_int) (xa_nil)))))))
/-! ### _law_wide -/
theorem sc__law_wide : FnScope ["_law_plan", "_law_away", "_law_found", "_law_j", "_law_whole", "_law_s"] ["_law_plan", "_law_away"] (defScope s__law_wide) := ⟨rfl, rfl, rfl, by decide +kernel, rfl, by decide +kernel, by decide +kernel⟩
theorem ok__law_wide (e : En K mg) (n : Nat) : FnOk P w K mg base (L2.CX P w) (n + 4) e.a__law_wide e.fd__law_wide ["_law_plan", "_law_away"] (spF K e.cl (f__law_wide)) := have sc := sc__law_wide; def_okD e.F__law_wide sc fun cdv A outer s H E hr => xs_cons (xs_set 2 (x_tup (xa_cons (x_int) (xa_cons (x_int) (xa_nil)))) sc.nd) (xs_cons (xs_for (xi_rng e.n_range (x_b1V 0 call_len cb_len e.n_len (by decide +kernel))) (pg_name sc.nd rfl (by first | exact Or.inl rfl | exact Or.inr rfl)) (tg_name) (puts_N) (xs_cons (xs_set 4 (x_tup (xa_cons (x_int) (xa_cons (x_int) (xa_nil)))) sc.nd) (xs_cons (xs_for (xi_rng e.n_range (x_b1V 0 call_len cb_len e.n_len (by decide +kernel))) (pg_name sc.nd rfl (by first | exact Or.inl rfl | exact Or.inr rfl)) (tg_name) (puts_N) (xs_one (xs_if (xt_ge (x_b1 call_abs cb_abs e.n_abs (by decide +kernel) (x_sub (x_var 5) (x_var 3))) (x_var 1)) (xs_one (xs_set 4 (x_call (ok__law_plus e (n + 0)) hr e.g__law_plus e.F__law_plus.kp (b__law_plus e) (takes_of rfl rfl rfl rfl) (xa_cons (x_var 4) (xa_cons (x_item (x_itemV 0 (x_var 3)) (x_var 5)) (xa_nil)))) sc.nd)) (xs_nil))) (passes_of rfl) rfl) (xs_one (xs_if (xt_val (x_call (ok__law_less e (n + 2)) hr e.g__law_less e.F__law_less.kp (b__law_less e) (takes_of rfl rfl rfl rfl) (xa_cons (x_var 2) (xa_cons (x_var 4) (xa_nil))))) (xs_one (xs_set 2 (x_var 4) sc.nd)) (xs_nil))))) (passes_of rfl) rfl) (xs_one (xs_retV 2)))
/-! ### _law_right -/
theorem sc__law_right : FnScope ["_law_deck_here", "_law_many", "_law_share", "_law_plan", "_law_back", "_law_unit_here", "_law_across", "_law_guide", "_law_away", "_law_due", "_law_more", "_law_j", "_law_s"] ["_law_deck_here"] (defScope s__law_right) := ⟨rfl, rfl, rfl, by decide +kernel, rfl, by decide +kernel, by decide +kernel⟩
theorem ok__law_right (e : En K mg) (tb : TabsB K base mg) (n : Nat) : FnOk P w K mg base (L2.CX P w) (n + 11) e.a__law_right e.fd__law_right ["_law_deck_here"] (spF K e.cl (f__law_right)) := have sc := sc__law_right; def_okD e.F__law_right sc fun cdv A outer s H E hr => xs_cons (xs_unp [1, 2] (x_tup (xa_cons (x_callA (ok__law_take e (n + 9)) hr e.g__law_take e.F__law_take.kp (b__law_take e) (takes_of rfl rfl rfl rfl) (xg_io 0 (xg_v (x_int) (xg_end)))) (xa_cons (x_callA (ok__law_ratio e (n + 7)) hr e.g__law_ratio e.F__law_ratio.kp (b__law_ratio e) (takes_of rfl rfl rfl rfl) (xg_io 0 (xg_end))) (xa_nil)))) (xg_cons 1 (xg_cons 2 (xg_nil) sc.nd) sc.nd) rfl) (xs_cons (xs_if (PW.pt (xw_and (xt_eqV 1 (Room.u64 hr) (x_int)) (xw_one (xt_eq (Room.u64 hr) (x_callA (ok__law_take e (n + 9)) hr e.g__law_take e.F__law_take.kp (b__law_take e) (takes_of rfl rfl rfl rfl) (xg_io 0 (xg_v (x_int) (xg_end)))) (x_int))))) (xs_one (xs_set 2 (x_tup (xa_cons (x_int) (xa_cons (x_int) (xa_nil)))) sc.nd)) (xs_nil)) (xs_cons (xs_par 3 4 (xa_cons (x_call (ok_ladder e (n + 3)) hr e.g_ladder e.F_ladder.kp (b_ladder e) (takes_of rfl rfl rfl rfl) (xa_cons (x_var 1) (xa_cons (x_var 2) (xa_nil)))) (xa_cons (x_call (ok_unladder e (n + 4)) hr e.g_unladder e.F_unladder.kp (b_unladder e) (takes_of rfl rfl rfl rfl) (xa_cons (x_var 1) (xa_cons (x_var 2) (xa_nil)))) (xa_nil))) rfl sc.nd) (xs_cons (xs_if (PW.pt (xw_or (xt_not (xt_val (x_call (ok__law_same e (n + 1) 8) hr e.g__law_same e.F__law_same.kp (b__law_same e) (takes_of rfl rfl rfl rfl) (xa_cons (x_callK0 (ok_unladder e (n + 4)) hr e.g_unladder e.F_unladder.kp (kb_unladder_0_ratio_n e) (takes_of rfl rfl rfl rfl) (xk_cons (x_var 2) (xk_cons (x_var 1) (xk_nil)))) (xa_cons (x_var 4) (xa_nil)))))) (xw_one (xt_not (xt_val (x_call (ok__law_are_numbers e (n + 0)) hr e.g__law_are_numbers e.F__law_are_numbers.kp (b__law_are_numbers e) (takes_of rfl rfl rfl rfl) (xa_cons (x_var 4) (xa_cons (x_add (x_var 1) (x_int)) (xa_nil))))))))) (xs_one (xs_ret (x_bl))) (xs_nil)) (xs_cons (xs_set 5 (x_t1 call_tuple_of cb_tuple e.n_tuple (by decide +kernel) (x_lc (own := [("_law_j", 11)]) rfl sc.nd (xi_rng e.n_range (x_add (x_var 1) (x_int))) (blkOk_by (N := ["_law_deck_here", "_law_many", "_law_share", "_law_plan", "_law_back", "_law_unit_here", "_law_across", "_law_guide", "_law_away", "_law_due", "_law_more", "_law_j", "_law_s"]) (sc := defScope s__law_right) (by decide +kernel)) (gw_name (by decide)) (tg_name) (putO_name) (fun _ _ _ _ _ => pg_name sc.nd rfl (by first | exact Or.inl rfl | exact Or.inr rfl)) (fun _ _ _ _ _ => x_call (ok__law_unit e (n + 9)) hr e.g__law_unit e.F__law_unit.kp (b__law_unit e) takes0 (xa_cons (x_var 1) (xa_cons (x_var 11) (xa_nil)))))) sc.nd) (xs_cons (xs_if (xt_not (xt_val (x_call (ok__law_same e (n + 1) 8) hr e.g__law_same e.F__law_same.kp (b__law_same e) (takes_of rfl rfl rfl rfl) (xa_cons (x_lst (xa_cons (x_call (ok__law_product e (n + 6)) hr e.g__law_product e.F__law_product.kp (b__law_product e) (takes_of rfl rfl rfl rfl) (xa_cons (x_var 3) (xa_cons (x_var 4) (xa_nil)))) (xa_cons (x_call (ok__law_product e (n + 6)) hr e.g__law_product e.F__law_product.kp (b__law_product e) (takes_of rfl rfl rfl rfl) (xa_cons (x_var 4) (xa_cons (x_var 3) (xa_nil)))) (xa_nil)))) (xa_cons (x_lst (xa_cons (x_var 5) (xa_cons (x_var 5) (xa_nil)))) (xa_nil)))))) (xs_one (xs_ret (x_bl))) (xs_nil)) (xs_cons (xs_set 6 (x_add (x_int) (x_callA (ok__law_take e (n + 9)) hr e.g__law_take e.F__law_take.kp (b__law_take e) (takes_of rfl rfl rfl rfl) (xg_io 0 (xg_v (x_int) (xg_end))))) sc.nd) (xs_cons (xs_set 7 (x_t1 call_tuple_of cb_tuple e.n_tuple (by decide +kernel) (x_lc (own := [("_law_s", 12)]) rfl sc.nd (xi_rng e.n_range (x_add (x_var 1) (x_int))) (blkOk_by (N := ["_law_deck_here", "_law_many", "_law_share", "_law_plan", "_law_back", "_law_unit_here", "_law_across", "_law_guide", "_law_away", "_law_due", "_law_more", "_law_j", "_law_s"]) (sc := defScope s__law_right) (by decide +kernel)) (gw_name (by decide)) (tg_name) (putO_name) (fun _ _ _ _ _ => pg_name sc.nd rfl (by first | exact Or.inl rfl | exact Or.inr rfl)) (fun _ _ _ _ _ => x_call (ok__law_shares e (n + 7)) hr e.g__law_shares e.F__law_shares.kp (b__law_shares e) takes0 (xa_cons (x_callA (ok__law_weights e (n + 8)) hr e.g__law_weights e.F__law_weights.kp (b__law_weights e) takes0 (xg_io 0 (xg_v (x_var 6) (xg_end)))) (xa_nil))))) sc.nd) (xs_cons (xs_if (xt_not (xt_val (x_call (ok__law_same e (n + 1) 8) hr e.g__law_same e.F__law_same.kp (b__law_same e) (takes_of rfl rfl rfl rfl) (xa_cons (x_call (ok__law_product e (n + 6)) hr e.g__law_product e.F__law_product.kp (b__law_product e) (takes_of rfl rfl rfl rfl) (xa_cons (x_var 4) (xa_cons (x_call (ok_read_by e tb (n + 0)) hr e.g_read_by e.F_read_by.kp (b_read_by e) (takes_of rfl rfl rfl rfl) (xa_cons (x_var 3) (xa_cons (x_var 7) (xa_nil)))) (xa_nil)))) (xa_cons (x_var 7) (xa_nil)))))) (xs_one (xs_ret (x_bl))) (xs_nil)) (xs_cons (xs_set 8 (x_callA (ok__law_take e (n + 9)) hr e.g__law_take e.F__law_take.kp (b__law_take e) (takes_of rfl rfl rfl rfl) (xg_io 0 (xg_v (x_add (x_var 1) (x_int)) (xg_end)))) sc.nd) (xs_cons (xs_par 9 10 (xa_cons (x_call (ok__law_wide e (n + 6)) hr e.g__law_wide e.F__law_wide.kp (b__law_wide e) (takes_of rfl rfl rfl rfl) (xa_cons (x_var 3) (xa_cons (x_var 8) (xa_nil)))) (xa_cons (x_call (ok__law_wide e (n + 6)) hr e.g__law_wide e.F__law_wide.kp (b__law_wide e) (takes_of rfl rfl rfl rfl) (xa_cons (x_var 3) (xa_cons (x_add (x_var 8) (x_int)) (xa_nil)))) (xa_nil))) rfl sc.nd) (xs_cons (xs_if (PW.pt (xw_or (xt_not (xt_val (x_call (ok__law_same e (n + 1) 8) hr e.g__law_same e.F__law_same.kp (b__law_same e) (takes_of rfl rfl rfl rfl) (xa_cons (x_lst (xa_cons (x_call (ok_wide e (n + 3)) hr e.g_wide e.F_wide.kp (b_wide e) (takes_of rfl rfl rfl rfl) (xa_cons (x_var 1) (xa_cons (x_var 2) (xa_cons (x_var 8) (xa_nil))))) (xa_cons (x_callK0 (ok_wide e (n + 3)) hr e.g_wide e.F_wide.kp (kb_wide_0_far_ratio_n e) (takes_of rfl rfl rfl rfl) (xk_cons (x_var 8) (xk_cons (x_var 2) (xk_cons (x_var 1) (xk_nil))))) (xa_nil)))) (xa_cons (x_lst (xa_cons (x_var 9) (xa_cons (x_var 9) (xa_nil)))) (xa_nil)))))) (xw_one (xt_val (x_call (ok__law_less e (n + 9)) hr e.g__law_less e.F__law_less.kp (b__law_less e) (takes_of rfl rfl rfl rfl) (xa_cons (x_var 9) (xa_cons (x_var 10) (xa_nil)))))))) (xs_one (xs_ret (x_bl))) (xs_nil)) (xs_cons (xs_set 9 (x_call (ok__law_wide e (n + 6)) hr e.g__law_wide e.F__law_wide.kp (b__law_wide e) (takes_of rfl rfl rfl rfl) (xa_cons (x_call (ok_ladder e (n + 3)) hr e.g_ladder e.F_ladder.kp (b_ladder e) (takes_of rfl rfl rfl rfl) (xa_cons (x_var 1) (xa_cons (x_tup (xa_cons (x_int) (xa_cons (x_int) (xa_nil)))) (xa_nil)))) (xa_cons (x_var 8) (xa_nil)))) sc.nd) (xs_cons (xs_if (xt_not (xt_val (x_call (ok__law_same e (n + 1) 8) hr e.g__law_same e.F__law_same.kp (b__law_same e) (takes_of rfl rfl rfl rfl) (xa_cons (x_lst (xa_cons (x_call (ok_wide e (n + 3)) hr e.g_wide e.F_wide.kp (b_wide e) (takes_of rfl rfl rfl rfl) (xa_cons (x_var 1) (xa_cons (x_tup (xa_cons (x_int) (xa_cons (x_int) (xa_nil)))) (xa_cons (x_var 8) (xa_nil))))) (xa_cons (x_callK0 (ok_wide e (n + 3)) hr e.g_wide e.F_wide.kp (kb_wide_0_far_ratio_n e) (takes_of rfl rfl rfl rfl) (xk_cons (x_var 8) (xk_cons (x_tup (xa_cons (x_int) (xa_cons (x_int) (xa_nil)))) (xk_cons (x_var 1) (xk_nil))))) (xa_nil)))) (xa_cons (x_lst (xa_cons (x_var 9) (xa_cons (x_var 9) (xa_nil)))) (xa_nil)))))) (xs_one (xs_ret (x_bl))) (xs_nil)) (xs_one (xs_ret (x_call (ok__law_same e (n + 1) 8) hr e.g__law_same e.F__law_same.kp (b__law_same e) (takes_of rfl rfl rfl rfl) (xa_cons (x_lst (xa_cons (x_call (ok_wide e (n + 3)) hr e.g_wide e.F_wide.kp (b_wide e) (takes_of rfl rfl rfl rfl) (xa_cons (x_var 1) (xa_cons (x_var 2) (xa_cons (x_int) (xa_nil))))) (xa_cons (x_call (ok_wide e (n + 3)) hr e.g_wide e.F_wide.kp (b_wide e) (takes_of rfl rfl rfl rfl) (xa_cons (x_var 1) (xa_cons (x_var 2) (xa_cons (x_add (x_var 1) (x_int)) (xa_nil))))) (xa_nil)))) (xa_cons (x_lst (xa_cons (x_tup (xa_cons (x_int) (xa_cons (x_int) (xa_nil)))) (xa_cons (x_tup (xa_cons (x_int) (xa_cons (x_int) (xa_nil)))) (xa_nil)))) (xa_nil)))))))))))))))))))
/-! ### law -/
theorem sc_law : FnScope ["_law_script", "_law_k"] ["_law_script"] (defScope s_law) := ⟨rfl, rfl, rfl, by decide +kernel, rfl, by decide +kernel, by decide +kernel⟩
theorem ok_law (e : En K mg) (tb : TabsB K base mg) (n : Nat) : FnOk P w K mg base CX0 (n + 12) e.a_law e.fd_law ["_law_script"] (sp0 K e.cl (f_law)) := have sc := sc_law; def_ok0 e.F_law sc fun cdv A outer s H E hr => xs_cons (xs_for (xi_rng e.n_range (x_b2 (call_max2 rfl) (cb_i2 fun _ _ _ => .int _) e.n_max (by decide +kernel) (x_int) (x_b2 (call_min2 rfl) (cb_i2 fun _ _ _ => .int _) e.n_min (by decide +kernel) (x_b1V 0 call_len cb_len e.n_len (by decide +kernel)) (x_int)))) (pg_name sc.nd rfl (by first | exact Or.inl rfl | exact Or.inr rfl)) (tg_name) (puts_N) (xs_one (xs_if (xt_not (xt_val (x_callA (ok__law_right e tb (n + 0)) hr e.g__law_right e.F__law_right.kp (b__law_right e) takes0 (xg_tmp (x_call (ok__law_deck e (n + 10)) hr e.g__law_deck e.F__law_deck.kp (b__law_deck e) takes0 (xa_cons (x_var 0) (xa_cons (x_var 1) (xa_nil)))) (xg_end))))) (xs_one (xs_ret (x_bl))) (xs_nil))) PassesOwn.never rfl) (xs_one (xs_ret (x_bl)))
/-! ### the head -/
def nDef0 : List Str := ["is_whole", "is_number", "check_count", "number", "plus", "minus", "times", "by", "power", "greatest", "total", "dot", "_is_less", "_check_all", "_check_not_empty"]
def nDef1 : List Str := ["check_ratio", "check_ratio_below_one", "ladder", "unladder", "wide", "_row", "_step", "_inverse_row", "_chance_far_off", "is_chance", "is_row", "is_scheme", "check_scheme", "read_by", "_law_deck"]
def nDef2 : List Str := ["_law_take", "_law_gcd", "_law_pair", "_law_plus", "_law_times", "_law_less", "_law_same", "_law_weights", "_law_shares", "_law_ratio", "_law_product", "_law_are_numbers", "_law_lowest", "_law_unit", "_law_wide"]
def nDef3 : List Str := ["_law_right", "law"]
def nDef : List Str := nDef0 ++ nDef1 ++ nDef2 ++ nDef3
def nFree0 : List Str := ["abs", "all", "bool", "enumerate", "int", "isinstance", "len", "list", "max", "min", "range", "str", "sum", "tuple", "zip"]
def nFree : List Str := nFree0
def nErr0 : List Str := ["TellError", "InvalidNumber", "InvalidScheme", "InvalidRatio", "InvalidPair", "DividedByZero"]
def nErr : List Str := nErr0
def D_is_whole : He.DefD := ⟨("is_whole", none), "is_whole", "is_whole", defArgs s_is_whole, defBody s_is_whole, defScope s_is_whole, [], []⟩
def D_is_number : He.DefD := ⟨("is_number", none), "is_number", "is_number", defArgs s_is_number, defBody s_is_number, defScope s_is_number, [], []⟩
def D_check_count : He.DefD := ⟨("check_count", none), "check_count", "check_count", defArgs s_check_count, defBody s_check_count, defScope s_check_count, [], []⟩
def D_number : He.DefD := ⟨("number", none), "number", "number", defArgs s_number, defBody s_number, defScope s_number, [], []⟩
def D_plus : He.DefD := ⟨("plus", none), "plus", "plus", defArgs s_plus, defBody s_plus, defScope s_plus, [], []⟩
def D_minus : He.DefD := ⟨("minus", none), "minus", "minus", defArgs s_minus, defBody s_minus, defScope s_minus, [], []⟩
def D_times : He.DefD := ⟨("times", none), "times", "times", defArgs s_times, defBody s_times, defScope s_times, [], []⟩
def D_by : He.DefD := ⟨("by", none), "by", "by", defArgs s_by, defBody s_by, defScope s_by, [], []⟩
def D_power : He.DefD := ⟨("power", none), "power", "power", defArgs s_power, defBody s_power, defScope s_power, [], []⟩
def D_greatest : He.DefD := ⟨("greatest", none), "greatest", "greatest", defArgs s_greatest, defBody s_greatest, defScope s_greatest, [], []⟩
def D_total : He.DefD := ⟨("total", none), "total", "total", defArgs s_total, defBody s_total, defScope s_total, [], []⟩
def D_dot : He.DefD := ⟨("dot", none), "dot", "dot", defArgs s_dot, defBody s_dot, defScope s_dot, [], []⟩
def D__is_less : He.DefD := ⟨("_is_less", none), "_is_less", "_is_less", defArgs s__is_less, defBody s__is_less, defScope s__is_less, [], []⟩
def D__check_all : He.DefD := ⟨("_check_all", none), "_check_all", "_check_all", defArgs s__check_all, defBody s__check_all, defScope s__check_all, [], []⟩
def D__check_not_empty : He.DefD := ⟨("_check_not_empty", none), "_check_not_empty", "_check_not_empty", defArgs s__check_not_empty, defBody s__check_not_empty, defScope s__check_not_empty, [], []⟩
def D_check_ratio : He.DefD := ⟨("check_ratio", none), "check_ratio", "check_ratio", defArgs s_check_ratio, defBody s_check_ratio, defScope s_check_ratio, [], []⟩
def D_check_ratio_below_one : He.DefD := ⟨("check_ratio_below_one", none), "check_ratio_below_one", "check_ratio_below_one", defArgs s_check_ratio_below_one, defBody s_check_ratio_below_one, defScope s_check_ratio_below_one, [], []⟩
def D_ladder : He.DefD := ⟨("ladder", none), "ladder", "ladder", defArgs s_ladder, defBody s_ladder, defScope s_ladder, [], []⟩
def D_unladder : He.DefD := ⟨("unladder", none), "unladder", "unladder", defArgs s_unladder, defBody s_unladder, defScope s_unladder, [], []⟩
def D_wide : He.DefD := ⟨("wide", none), "wide", "wide", defArgs s_wide, defBody s_wide, defScope s_wide, [], []⟩
def D__row : He.DefD := ⟨("_row", none), "_row", "_row", defArgs s__row, defBody s__row, defScope s__row, [], []⟩
def D__step : He.DefD := ⟨("_step", none), "_step", "_step", defArgs s__step, defBody s__step, defScope s__step, [], []⟩
def D__inverse_row : He.DefD := ⟨("_inverse_row", none), "_inverse_row", "_inverse_row", defArgs s__inverse_row, defBody s__inverse_row, defScope s__inverse_row, [], []⟩
def D__chance_far_off : He.DefD := ⟨("_chance_far_off", none), "_chance_far_off", "_chance_far_off", defArgs s__chance_far_off, defBody s__chance_far_off, defScope s__chance_far_off, [], []⟩
def D_is_chance : He.DefD := ⟨("is_chance", none), "is_chance", "is_chance", defArgs s_is_chance, defBody s_is_chance, defScope s_is_chance, [], []⟩
def D_is_row : He.DefD := ⟨("is_row", none), "is_row", "is_row", defArgs s_is_row, defBody s_is_row, defScope s_is_row, [], []⟩
def D_is_scheme : He.DefD := ⟨("is_scheme", none), "is_scheme", "is_scheme", defArgs s_is_scheme, defBody s_is_scheme, defScope s_is_scheme, [], []⟩
def D_check_scheme : He.DefD := ⟨("check_scheme", none), "check_scheme", "check_scheme", defArgs s_check_scheme, defBody s_check_scheme, defScope s_check_scheme, [], []⟩
def D_read_by : He.DefD := ⟨("read_by", none), "read_by", "read_by", defArgs s_read_by, defBody s_read_by, defScope s_read_by, [], []⟩
def D__law_deck : He.DefD := ⟨("_law_deck", none), "_law_deck", "_law_deck", defArgs s__law_deck, defBody s__law_deck, defScope s__law_deck, [], []⟩
def D__law_take : He.DefD := ⟨("_law_take", none), "_law_take", "_law_take", defArgs s__law_take, defBody s__law_take, defScope s__law_take, [], []⟩
def D__law_gcd : He.DefD := ⟨("_law_gcd", none), "_law_gcd", "_law_gcd", defArgs s__law_gcd, defBody s__law_gcd, defScope s__law_gcd, [], []⟩
def D__law_pair : He.DefD := ⟨("_law_pair", none), "_law_pair", "_law_pair", defArgs s__law_pair, defBody s__law_pair, defScope s__law_pair, [], []⟩
def D__law_plus : He.DefD := ⟨("_law_plus", none), "_law_plus", "_law_plus", defArgs s__law_plus, defBody s__law_plus, defScope s__law_plus, [], []⟩
def D__law_times : He.DefD := ⟨("_law_times", none), "_law_times", "_law_times", defArgs s__law_times, defBody s__law_times, defScope s__law_times, [], []⟩
def D__law_less : He.DefD := ⟨("_law_less", none), "_law_less", "_law_less", defArgs s__law_less, defBody s__law_less, defScope s__law_less, [], []⟩
def D__law_same : He.DefD := ⟨("_law_same", none), "_law_same", "_law_same", defArgs s__law_same, defBody s__law_same, defScope s__law_same, [], []⟩
def D__law_weights : He.DefD := ⟨("_law_weights", none), "_law_weights", "_law_weights", defArgs s__law_weights, defBody s__law_weights, defScope s__law_weights, [], []⟩
def D__law_shares : He.DefD := ⟨("_law_shares", none), "_law_shares", "_law_shares", defArgs s__law_shares, defBody s__law_shares, defScope s__law_shares, [], []⟩
def D__law_ratio : He.DefD := ⟨("_law_ratio", none), "_law_ratio", "_law_ratio", defArgs s__law_ratio, defBody s__law_ratio, defScope s__law_ratio, [], []⟩
def D__law_product : He.DefD := ⟨("_law_product", none), "_law_product", "_law_product", defArgs s__law_product, defBody s__law_product, defScope s__law_product, [], []⟩
def D__law_are_numbers : He.DefD := ⟨("_law_are_numbers", none), "_law_are_numbers", "_law_are_numbers", defArgs s__law_are_numbers, defBody s__law_are_numbers, defScope s__law_are_numbers, [], []⟩
def D__law_lowest : He.DefD := ⟨("_law_lowest", none), "_law_lowest", "_law_lowest", defArgs s__law_lowest, defBody s__law_lowest, defScope s__law_lowest, [], []⟩
def D__law_unit : He.DefD := ⟨("_law_unit", none), "_law_unit", "_law_unit", defArgs s__law_unit, defBody s__law_unit, defScope s__law_unit, [], []⟩
def D__law_wide : He.DefD := ⟨("_law_wide", none), "_law_wide", "_law_wide", defArgs s__law_wide, defBody s__law_wide, defScope s__law_wide, [], []⟩
def D__law_right : He.DefD := ⟨("_law_right", none), "_law_right", "_law_right", defArgs s__law_right, defBody s__law_right, defScope s__law_right, [], []⟩
def D_law : He.DefD := ⟨("law", none), "law", "law", defArgs s_law, defBody s_law, defScope s_law, [], []⟩
def fns0 : List He.DefD := [initD ⟨5, 17, 5, 21⟩ ⟨5, 23, 5, 28⟩ ⟨6, 8, 6, 12⟩ ⟨6, 8, 6, 18⟩ ⟨6, 21, 6, 26⟩ ⟨6, 8, 6, 26⟩, D_is_whole, D_is_number, D_check_count, D_number, D_plus, D_minus, D_times, D_by, D_power, D_greatest, D_total, D_dot, D__is_less, D__check_all]
def fns1 : List He.DefD := [D__check_not_empty, D_check_ratio, D_check_ratio_below_one, D_ladder, D_unladder, D_wide, D__row, D__step, D__inverse_row, D__chance_far_off, D_is_chance, D_is_row, D_is_scheme, D_check_scheme, D_read_by]
def fns2 : List He.DefD := [D__law_deck, D__law_take, D__law_gcd, D__law_pair, D__law_plus, D__law_times, D__law_less, D__law_same, D__law_weights, D__law_shares, D__law_ratio, D__law_product, D__law_are_numbers, D__law_lowest, D__law_unit]
def fns3 : List He.DefD := [D__law_wide, D__law_right, D_law]
def fns : List He.DefD := fns0 ++ fns1 ++ fns2 ++ fns3
abbrev clA (K : PySem.W.Frag) (i : Nat) : Addr := He.ga K (nErr.getD i "")
abbrev inA (K : PySem.W.Frag) : Addr := He.ma K (He.ga K "TellError") "__init__"
def ck0 (K : PySem.W.Frag) : Bool := (nDef.all fun x => isOk (PySem.W.nsIn K mainGlobals x) (some (some (.ref (He.ga K x)))))
def ck1 (K : PySem.W.Frag) : Bool := (nFree.all fun x => isOk (PySem.W.nsIn K mainGlobals x) (some none))
def ck2 (K : PySem.W.Frag) : Bool := (nErr.all fun x => isOk (PySem.W.nsIn K mainGlobals x) (some (some (.ref (He.ga K x)))) && (errB K (He.ga K x) (inA K) && errI K (He.ga K x)))
def ck3 (K : PySem.W.Frag) : Bool := ((List.range 6).all fun c => (List.range 6).all fun k => decide (PySem.W.exmOne K (.ref (clA K c)) (.ref (clA K k)) = some (mt c k)))
def ck4 (K : PySem.W.Frag) : Bool := isOk (PySem.W.nsIn K mainGlobals "gcd") (some (some (.builtin "math.gcd")))
def ck5 (K : PySem.W.Frag) : Bool := isOk (PySem.W.nsIn K mainGlobals "ZERO") (some (some (.ref (He.ga K "ZERO"))))
def ck6 (K : PySem.W.Frag) : Bool := He.tupB K "ZERO" w_ZERO
def ck7 (K : PySem.W.Frag) : Bool := isOk (PySem.W.nsIn K mainGlobals "ONE") (some (some (.ref (He.ga K "ONE"))))
def ck8 (K : PySem.W.Frag) : Bool := He.tupB K "ONE" w_ONE
def ck9 (K : PySem.W.Frag) : Bool := tabC K ("is_row", none)
def ck10 (K : PySem.W.Frag) : Bool := tabC K ("is_scheme", none)
def ck (K : PySem.W.Frag) : Bool := ck0 K && (ck1 K && (ck2 K && (ck3 K && (ck4 K && (ck5 K && (ck6 K && (ck7 K && (ck8 K && (ck9 K && ck10 K)))))))))
theorem en_of {K : PySem.W.Frag} {h : Heap} {mg : Str → Option Value} (X : K.In h) (G : h.Ns mainGlobals mg) (c : SaysX ck fns K) : Nonempty (En K mg) := by
  have hc := c.chk
  obtain ⟨c0, hc⟩ := Bool.and_eq_true_iff.mp hc
  obtain ⟨c1, hc⟩ := Bool.and_eq_true_iff.mp hc
  obtain ⟨c2, hc⟩ := Bool.and_eq_true_iff.mp hc
  obtain ⟨c3, hc⟩ := Bool.and_eq_true_iff.mp hc
  obtain ⟨c4, hc⟩ := Bool.and_eq_true_iff.mp hc
  obtain ⟨c5, hc⟩ := Bool.and_eq_true_iff.mp hc
  obtain ⟨c6, hc⟩ := Bool.and_eq_true_iff.mp hc
  obtain ⟨c7, hc⟩ := Bool.and_eq_true_iff.mp hc
  obtain ⟨c8, hc⟩ := Bool.and_eq_true_iff.mp hc
  obtain ⟨c9, hc⟩ := Bool.and_eq_true_iff.mp hc
  have c10 := hc
  have gD : ∀ i x, nDef[i]? = some x → mg x = some (.ref (He.ga K x)) := fun i x e => PySem.W.mg_of X G (of_decide_eq_true (List.all_eq_true.mp c0 x (List.mem_of_getElem? e)))
  have gF : ∀ i x, nFree[i]? = some x → mg x = none := fun i x e => PySem.W.mg_none_of X G (of_decide_eq_true (List.all_eq_true.mp c1 x (List.mem_of_getElem? e)))
  have gE : ∀ i x, nErr[i]? = some x → mg x = some (.ref (He.ga K x)) := fun i x e => PySem.W.mg_of X G (of_decide_eq_true (Bool.and_eq_true_iff.mp (List.all_eq_true.mp c2 x (List.mem_of_getElem? e))).1)
  obtain ⟨fdI, FI⟩ := c.def_ 0 rfl
  have tE : ∀ i x, nErr[i]? = some x → PySem.TellX.TellTxt K (He.ga K x) (inA K) := fun i x e => errB_ok (Bool.and_eq_true_iff.mp (Bool.and_eq_true_iff.mp (List.all_eq_true.mp c2 x (List.mem_of_getElem? e))).2).1 FI
  have iE : ∀ i x, nErr[i]? = some x → errI K (He.ga K x) = true := fun i x e => (Bool.and_eq_true_iff.mp (Bool.and_eq_true_iff.mp (List.all_eq_true.mp c2 x (List.mem_of_getElem? e))).2).2
  obtain ⟨fd0, F0⟩ := c.def_ 1 rfl
  obtain ⟨fd1, F1⟩ := c.def_ 2 rfl
  obtain ⟨fd2, F2⟩ := c.def_ 3 rfl
  obtain ⟨fd3, F3⟩ := c.def_ 4 rfl
  obtain ⟨fd4, F4⟩ := c.def_ 5 rfl
  obtain ⟨fd5, F5⟩ := c.def_ 6 rfl
  obtain ⟨fd6, F6⟩ := c.def_ 7 rfl
  obtain ⟨fd7, F7⟩ := c.def_ 8 rfl
  obtain ⟨fd8, F8⟩ := c.def_ 9 rfl
  obtain ⟨fd9, F9⟩ := c.def_ 10 rfl
  obtain ⟨fd10, F10⟩ := c.def_ 11 rfl
  obtain ⟨fd11, F11⟩ := c.def_ 12 rfl
  obtain ⟨fd12, F12⟩ := c.def_ 13 rfl
  obtain ⟨fd13, F13⟩ := c.def_ 14 rfl
  obtain ⟨fd14, F14⟩ := c.def_ 15 rfl
  obtain ⟨fd15, F15⟩ := c.def_ 16 rfl
  obtain ⟨fd16, F16⟩ := c.def_ 17 rfl
  obtain ⟨fd17, F17⟩ := c.def_ 18 rfl
  obtain ⟨fd18, F18⟩ := c.def_ 19 rfl
  obtain ⟨fd19, F19⟩ := c.def_ 20 rfl
  obtain ⟨fd20, F20⟩ := c.def_ 21 rfl
  obtain ⟨fd21, F21⟩ := c.def_ 22 rfl
  obtain ⟨fd22, F22⟩ := c.def_ 23 rfl
  obtain ⟨fd23, F23⟩ := c.def_ 24 rfl
  obtain ⟨fd24, F24⟩ := c.def_ 25 rfl
  obtain ⟨fd25, F25⟩ := c.def_ 26 rfl
  obtain ⟨fd26, F26⟩ := c.def_ 27 rfl
  obtain ⟨fd27, F27⟩ := c.def_ 28 rfl
  obtain ⟨fd28, F28⟩ := c.def_ 29 rfl
  obtain ⟨fd29, F29⟩ := c.def_ 30 rfl
  obtain ⟨fd30, F30⟩ := c.def_ 31 rfl
  obtain ⟨fd31, F31⟩ := c.def_ 32 rfl
  obtain ⟨fd32, F32⟩ := c.def_ 33 rfl
  obtain ⟨fd33, F33⟩ := c.def_ 34 rfl
  obtain ⟨fd34, F34⟩ := c.def_ 35 rfl
  obtain ⟨fd35, F35⟩ := c.def_ 36 rfl
  obtain ⟨fd36, F36⟩ := c.def_ 37 rfl
  obtain ⟨fd37, F37⟩ := c.def_ 38 rfl
  obtain ⟨fd38, F38⟩ := c.def_ 39 rfl
  obtain ⟨fd39, F39⟩ := c.def_ 40 rfl
  obtain ⟨fd40, F40⟩ := c.def_ 41 rfl
  obtain ⟨fd41, F41⟩ := c.def_ 42 rfl
  obtain ⟨fd42, F42⟩ := c.def_ 43 rfl
  obtain ⟨fd43, F43⟩ := c.def_ 44 rfl
  obtain ⟨fd44, F44⟩ := c.def_ 45 rfl
  obtain ⟨fd45, F45⟩ := c.def_ 46 rfl
  obtain ⟨fd46, F46⟩ := c.def_ 47 rfl
  exact ⟨{ cl := clA K, fI := inA K, c_TellError := gE 0 _ rfl, T_TellError := tE 0 _ rfl, c_InvalidNumber := gE 1 _ rfl, T_InvalidNumber := tE 1 _ rfl, c_InvalidScheme := gE 2 _ rfl, T_InvalidScheme := tE 2 _ rfl, c_InvalidRatio := gE 3 _ rfl, T_InvalidRatio := tE 3 _ rfl, c_InvalidPair := gE 4 _ rfl, T_InvalidPair := tE 4 _ rfl, c_DividedByZero := gE 5 _ rfl, T_DividedByZero := tE 5 _ rfl, EK := errK_of (n := 6) (fun c k hc hk => of_decide_eq_true (List.all_eq_true.mp (List.all_eq_true.mp c3 c (List.mem_range.mpr hc)) k (List.mem_range.mpr hk))) (fun c hc => tell_good (tE c (nErr.getD c "") (getD_at (Nat.lt_of_lt_of_le hc (by decide)))) (iE c (nErr.getD c "") (getD_at (Nat.lt_of_lt_of_le hc (by decide))))), a_is_whole := _, fd_is_whole := fd0, F_is_whole := F0, g_is_whole := gD 0 _ rfl, a_is_number := _, fd_is_number := fd1, F_is_number := F1, g_is_number := gD 1 _ rfl, a_check_count := _, fd_check_count := fd2, F_check_count := F2, g_check_count := gD 2 _ rfl, a_number := _, fd_number := fd3, F_number := F3, g_number := gD 3 _ rfl, a_plus := _, fd_plus := fd4, F_plus := F4, g_plus := gD 4 _ rfl, a_minus := _, fd_minus := fd5, F_minus := F5, g_minus := gD 5 _ rfl, a_times := _, fd_times := fd6, F_times := F6, g_times := gD 6 _ rfl, a_by := _, fd_by := fd7, F_by := F7, g_by := gD 7 _ rfl, a_power := _, fd_power := fd8, F_power := F8, g_power := gD 8 _ rfl, a_greatest := _, fd_greatest := fd9, F_greatest := F9, g_greatest := gD 9 _ rfl, a_total := _, fd_total := fd10, F_total := F10, g_total := gD 10 _ rfl, a_dot := _, fd_dot := fd11, F_dot := F11, g_dot := gD 11 _ rfl, a__is_less := _, fd__is_less := fd12, F__is_less := F12, g__is_less := gD 12 _ rfl, a__check_all := _, fd__check_all := fd13, F__check_all := F13, g__check_all := gD 13 _ rfl, a__check_not_empty := _, fd__check_not_empty := fd14, F__check_not_empty := F14, g__check_not_empty := gD 14 _ rfl, a_check_ratio := _, fd_check_ratio := fd15, F_check_ratio := F15, g_check_ratio := gD 15 _ rfl, a_check_ratio_below_one := _, fd_check_ratio_below_one := fd16, F_check_ratio_below_one := F16, g_check_ratio_below_one := gD 16 _ rfl, a_ladder := _, fd_ladder := fd17, F_ladder := F17, g_ladder := gD 17 _ rfl, a_unladder := _, fd_unladder := fd18, F_unladder := F18, g_unladder := gD 18 _ rfl, a_wide := _, fd_wide := fd19, F_wide := F19, g_wide := gD 19 _ rfl, a__row := _, fd__row := fd20, F__row := F20, g__row := gD 20 _ rfl, a__step := _, fd__step := fd21, F__step := F21, g__step := gD 21 _ rfl, a__inverse_row := _, fd__inverse_row := fd22, F__inverse_row := F22, g__inverse_row := gD 22 _ rfl, a__chance_far_off := _, fd__chance_far_off := fd23, F__chance_far_off := F23, g__chance_far_off := gD 23 _ rfl, a_is_chance := _, fd_is_chance := fd24, F_is_chance := F24, g_is_chance := gD 24 _ rfl, a_is_row := _, fd_is_row := fd25, F_is_row := F25, g_is_row := gD 25 _ rfl, t_is_row := tabF_of F25 c9, a_is_scheme := _, fd_is_scheme := fd26, F_is_scheme := F26, g_is_scheme := gD 26 _ rfl, t_is_scheme := tabF_of F26 c10, a_check_scheme := _, fd_check_scheme := fd27, F_check_scheme := F27, g_check_scheme := gD 27 _ rfl, a_read_by := _, fd_read_by := fd28, F_read_by := F28, g_read_by := gD 28 _ rfl, a__law_deck := _, fd__law_deck := fd29, F__law_deck := F29, g__law_deck := gD 29 _ rfl, a__law_take := _, fd__law_take := fd30, F__law_take := F30, g__law_take := gD 30 _ rfl, a__law_gcd := _, fd__law_gcd := fd31, F__law_gcd := F31, g__law_gcd := gD 31 _ rfl, a__law_pair := _, fd__law_pair := fd32, F__law_pair := F32, g__law_pair := gD 32 _ rfl, a__law_plus := _, fd__law_plus := fd33, F__law_plus := F33, g__law_plus := gD 33 _ rfl, a__law_times := _, fd__law_times := fd34, F__law_times := F34, g__law_times := gD 34 _ rfl, a__law_less := _, fd__law_less := fd35, F__law_less := F35, g__law_less := gD 35 _ rfl, a__law_same := _, fd__law_same := fd36, F__law_same := F36, g__law_same := gD 36 _ rfl, a__law_weights := _, fd__law_weights := fd37, F__law_weights := F37, g__law_weights := gD 37 _ rfl, a__law_shares := _, fd__law_shares := fd38, F__law_shares := F38, g__law_shares := gD 38 _ rfl, a__law_ratio := _, fd__law_ratio := fd39, F__law_ratio := F39, g__law_ratio := gD 39 _ rfl, a__law_product := _, fd__law_product := fd40, F__law_product := F40, g__law_product := gD 40 _ rfl, a__law_are_numbers := _, fd__law_are_numbers := fd41, F__law_are_numbers := F41, g__law_are_numbers := gD 41 _ rfl, a__law_lowest := _, fd__law_lowest := fd42, F__law_lowest := F42, g__law_lowest := gD 42 _ rfl, a__law_unit := _, fd__law_unit := fd43, F__law_unit := F43, g__law_unit := gD 43 _ rfl, a__law_wide := _, fd__law_wide := fd44, F__law_wide := F44, g__law_wide := gD 44 _ rfl, a__law_right := _, fd__law_right := fd45, F__law_right := F45, g__law_right := gD 45 _ rfl, a_law := _, fd_law := fd46, F_law := F46, g_law := gD 46 _ rfl, m_gcd := PySem.W.mg_of X G (of_decide_eq_true c4), v_ZERO := .ref (He.ga K "ZERO"), u_ZERO := .ref (He.ga K "ZERO"), g_ZERO := PySem.W.mg_of X G (of_decide_eq_true c5), r_ZERO := rfl, q_ZERO := fun H => dq_ZERO (He.tupB_ok c6 H), v_ONE := .ref (He.ga K "ONE"), u_ONE := .ref (He.ga K "ONE"), g_ONE := PySem.W.mg_of X G (of_decide_eq_true c7), r_ONE := rfl, q_ONE := fun H => dq_ONE (He.tupB_ok c8 H), n_abs := gF 0 _ rfl, n_all := gF 1 _ rfl, n_bool := gF 2 _ rfl, n_enumerate := gF 3 _ rfl, n_int := gF 4 _ rfl, n_isinstance := gF 5 _ rfl, n_len := gF 6 _ rfl, n_list := gF 7 _ rfl, n_max := gF 8 _ rfl, n_min := gF 9 _ rfl, n_range := gF 10 _ rfl, n_str := gF 11 _ rfl, n_sum := gF 12 _ rfl, n_tuple := gF 13 _ rfl, n_zip := gF 14 _ rfl }⟩
abbrev R : PySem.W.OpenRow := PySem.W.OpenLaw.row PySem.Challenge.rw_oneservesall_k09_whole_ladders_undone_an
abbrev hk : PySem.W.Hook := hookT 4 ck fns
def ob (s : PySem.W.SharedT) : He.AlD := obsT 4 ck fns (HandSHeadRun.getT s)
theorem ob_eq (s : PySem.W.SharedT) : ob s = hk.obs s.abs := obsT_eq (HandSHeadRun.getT_eq s)
def loose0 : List Str := ["TellError", "InvalidNumber", "InvalidScheme", "InvalidRatio", "InvalidPair", "DividedByZero", "ZERO", "ONE", "is_whole", "is_number", "check_count", "number", "plus", "minus", "times"]
def loose1 : List Str := ["by", "power", "greatest", "total", "dot", "_is_less", "_check_all", "_check_not_empty", "check_ratio", "check_ratio_below_one", "ladder", "unladder", "wide", "_row", "_step"]
def loose2 : List Str := ["_inverse_row", "_chance_far_off", "is_chance", "is_row", "is_scheme", "check_scheme", "read_by", "_law_deck", "_law_take", "_law_gcd", "_law_pair", "_law_plus", "_law_times", "_law_less", "_law_same"]
def loose3 : List Str := ["_law_weights", "_law_shares", "_law_ratio", "_law_product", "_law_are_numbers", "_law_lowest", "_law_unit", "_law_wide", "_law_right"]
def loose : List Str := loose0 ++ loose1 ++ loose2 ++ loose3
theorem run (w : World) : HandSHeadRun.RunEqI R (PySem.W.view R.prog [0, 61]) hk ob 15000 loose w := by
  unfold HandSHeadRun.RunEqI; kernel_rfl
end G
open PySem PySem.W PySem.Calls PyProof.Rows TX
theorem G.law_holds (h : ∀ (ns : List Int), ns.length ≤ 63 → ∃ b st, G.f_law [.pu (.scr ns)] = .ok (.bl true, b) st) : PySem.Challenge.rw_oneservesall_k09_whole_ladders_undone_an.Holds := by
  w_on; o_law
  refine HandSHeadRun.head_imp (r := OpenLaw.row PySem.Challenge.rw_oneservesall_k09_whole_ladders_undone_an) (q := view (OpenLaw.row PySem.Challenge.rw_oneservesall_k09_whole_ladders_undone_an).prog [0, 61]) (H := G.hk) (ob := G.ob) (M := 15000) (loose := G.loose) (d := HandSHeadRun.topDef (OpenLaw.row PySem.Challenge.rw_oneservesall_k09_whole_ladders_undone_an).prog 61) (kwd := []) G.ob_eq G.run (by kernel_rfl) (by kernel_rfl) (by kernel_rfl) (by rfl) (by first | assumption | decide +kernel) (by decide +kernel) ⟨rfl, rfl, rfl, rfl, rfl, by decide +kernel⟩ ?hw ?hc
  case hw => w_witness2
  case hc =>
    refine LamX.walk_ofTsE (l := PySem.Challenge.rw_oneservesall_k09_whole_ladders_undone_an) (n := 63) (k := 12) (x := "_law_script") (CX := fun _ => L2.CX0) rfl (by decide) (by kernel_rfl) ⟨rfl, by decide, by decide⟩ ?F (fun _ _ _ _ _ z => z)
    intro w mg fa hp Y GG hmg0
    obtain ⟨K, KX, c⟩ := Y
    have hmg : mg ("law" : PySem.Str) = some (.ref fa) := by
      have e : (HandSHeadRun.topDef (OpenLaw.row PySem.Challenge.rw_oneservesall_k09_whole_ladders_undone_an).prog 61).name = ("law" : PySem.Str) := by kernel_rfl
      rw [← e]
      exact hmg0
    obtain ⟨e⟩ := G.en_of KX GG c.d
    have ee := hmg.symm.trans e.g_law
    cases ee
    have bb := L2.FunD.bindsA (ps := ["_law_script"]) e.F_law fun _ _ _ _ _ _ us hl => match us, hl with | [_], _ => rfl
    exact ⟨K, KX, lawTx (cl := e.cl) (φ := G.f_law) KX c (fun s v => bb s [v] rfl) (fun ns hl _ => h ns hl) (fun base tb => (G.ok_law e tb 0 : _))⟩
namespace G

end G
end
end

section
set_option Elab.async false
set_option linter.all false
set_option maxRecDepth 100000
set_option maxHeartbeats 2000000
/-! runs, step by step: each rule tells what a piece of a run gives from what its parts give -/
namespace TX
open PySem L2
section
variable {st st1 st2 st3 : List Sl} {a b e : EvE} {ea er : EvA} {t u : EvT} {x y z : R1} {d : D} {ds es : List D} {i j : Nat} {o : SO}
theorem eC_r : eC d st = .ok (d, false) st := rfl
theorem eVar_r (h : st[i]? = some (.pu d)) : eVar i st = .ok (d, false) st := by unfold eVar; rw [h]
theorem eVar_ow (h : st[i]? = some (.ow ds)) : eVar i st = .ok (.lst ds, false) (st.set i (.pu (.lst ds))) := by unfold eVar; rw [h]
theorem eBin_r {f : D → D → Option R1} (ha : a st = .ok x st1) (hb : b st1 = .ok y st2) (hf : f x.1 y.1 = some z) : eBin f a b st = .ok z st2 := by unfold eBin; rw [ha]; show (b st1).bind _ = _; rw [hb]; show (match f x.1 y.1 with | some z => O.ok z st2 | none => .no) = _; rw [hf]
theorem eUn_r {f : D → Option R1} (ha : a st = .ok x st1) (hf : f x.1 = some z) : eUn f a st = .ok z st1 := by unfold eUn; rw [ha]; show (match f x.1 with | some z => O.ok z st1 | none => .no) = _; rw [hf]
theorem eIxV_r {d0 : D} (h0 : slD st[i]? = some d0) (hb : b st = .ok y st1) (h1 : slD st1[i]? = some d) (hf : fIx d y.1 = some z) : eIxV i b st = .ok z st1 := by
  unfold eIxV; rw [h0]; show (b st).bind _ = _; rw [hb]
  show (match slD st1[i]? with | none => (O.no : O R1) | some d => match fIx d y.1 with | some z => O.ok z st1 | none => O.no) = _
  rw [h1]; show (match fIx d y.1 with | some z => O.ok z st1 | none => .no) = _; rw [hf]
theorem eBinV_r {f : D → D → Option R1} {d0 : D} (h0 : slD st[i]? = some d0) (hb : b st = .ok y st1) (h1 : slD st1[i]? = some d) (hf : f d y.1 = some z) : eBinV f i b st = .ok z st1 := by
  unfold eBinV; rw [h0]; show (b st).bind _ = _; rw [hb]
  show (match slD st1[i]? with | none => (O.no : O R1) | some d => match f d y.1 with | some z => O.ok z st1 | none => O.no) = _
  rw [h1]; show (match f d y.1 with | some z => O.ok z st1 | none => .no) = _; rw [hf]
theorem eV1_r {f : D → Option R1} (h0 : slD st[i]? = some d) (hf : f d = some z) : eV1 f i st = .ok z st := by
  unfold eV1; rw [h0]; show (match f d with | some z => O.ok z st | none => .no) = _; rw [hf]
theorem aNil_r : aNil st = .ok [] st := rfl
theorem aCons_r (ha : a st = .ok x st1) (hr : er st1 = .ok ds st2) (hd : x.1 = d) : aCons a er st = .ok (d :: ds) st2 := by subst hd; unfold aCons; rw [ha]; show (er st1).bind _ = _; rw [hr]; rfl
theorem eTup_r (ha : ea st = .ok ds st1) (hl : ds.length ≤ 100000) (hz : (D.tup ds, false) = z) : eTup ea st = .ok z st1 := by subst hz; unfold eTup; rw [ha]; exact if_pos hl
theorem eLst_r (ha : ea st = .ok ds st1) (hl : ds.length ≤ 100000) (hz : (D.lst ds, true) = z) : eLst ea st = .ok z st1 := by subst hz; unfold eLst; rw [ha]; exact if_pos hl
theorem eIf_r {c : Bool} (ht : t st = .ok c st1) (h : (if c = true then a st1 else b st1) = .ok z st2) : eIf t a b st = .ok z st2 := by unfold eIf; rw [ht]; exact h
theorem eAnd_f (ha : a st = .ok x st1) (hx : x.1 = .bl false) : ∃ z, eAnd a b st = .ok z st1 ∧ z.1 = .bl false := by
  obtain ⟨d, c⟩ := x; cases hx; unfold eAnd; rw [ha]; exact ⟨_, rfl, rfl⟩
theorem tOf_r {c : Bool} (ha : a st = .ok x st1) (hx : x.1 = .bl c) : tOf a st = .ok c st1 := by obtain ⟨d, f⟩ := x; cases hx; unfold tOf; rw [ha]; rfl
theorem tNot_r {c : Bool} (h : t st = .ok c st1) : tNot' t st = .ok (!c) st1 := by unfold tNot'; rw [h]; rfl
theorem tAnd_r {c c' : Bool} (h : t st = .ok c st1) (h2 : (if c = true then u st1 else .ok false st1) = .ok c' st2) : tAnd' t u st = .ok c' st2 := by unfold tAnd'; rw [h]; exact h2
theorem tOr_r {c c' : Bool} (h : t st = .ok c st1) (h2 : (if c = true then .ok true st1 else u st1) = .ok c' st2) : tOr' t u st = .ok c' st2 := by unfold tOr'; rw [h]; exact h2
theorem eCallP_r {pm : List D → List D} {φ : EvE} {a' : List Sl} (h : ea st = .ok ds st1) (hf : φ (pus (pm ds)) = .ok z a') : eCallP ea pm φ st = .ok z st1 := by unfold eCallP; rw [h]; show (match φ (pus (pm ds)) with | .ok z _ => O.ok z st1 | .ex c d _ => O.ex c d st1 | .no => O.no) = _; rw [hf]
theorem eCallP_x {pm : List D → List D} {φ : EvE} {a' : List Sl} {c : Nat} (h : ea st = .ok ds st1) (hf : φ (pus (pm ds)) = .ex c d a') : eCallP ea pm φ st = .ex c d st1 := by unfold eCallP; rw [h]; show (match φ (pus (pm ds)) with | .ok z _ => O.ok z st1 | .ex c d _ => O.ex c d st1 | .no => O.no) = _; rw [hf]
/-! statements -/
variable {P : List Nat} {sa sb : EvS}
theorem sSeq_r (h : sa st = .nx st1) (h2 : sb st1 = o) : sSeq sa sb st = o := by unfold sSeq; rw [h]; exact h2
theorem sSeq_rt (h : sa st = .rt z st1) : sSeq sa sb st = .rt z st1 := by unfold sSeq; rw [h]
theorem sSeq_ex {c : Nat} (h : sa st = .ex c d st1) : sSeq sa sb st = .ex c d st1 := by unfold sSeq; rw [h]
theorem sSkip_r : sSkip st = .nx st := rfl
theorem sSet_r (h : a st = .ok x st1) (h2 : putS P i x st1 = o) : sSet P i a st = o := by unfold sSet; rw [h]; exact h2
theorem putS_r (hi : ¬(i ∈ P ∨ st.length ≤ i)) (ho : SO.nx (st.set i (.pu d)) = o) : putS P i (d, false) st = o := by subst ho; unfold putS; rw [if_neg hi]; cases d <;> rfl
theorem putS_ow (hi : ¬(i ∈ P ∨ st.length ≤ i)) (ho : SO.nx (st.set i (.ow ds)) = o) : putS P i (.lst ds, true) st = o := by subst ho; unfold putS; rw [if_neg hi]
theorem sRet_r (h : a st = .ok x st1) : sRet a st = .rt x st1 := by unfold sRet; rw [h]; rfl
theorem sRet_x {c : Nat} (h : a st = .ex c d st1) : sRet a st = .ex c d st1 := by unfold sRet; rw [h]; rfl
theorem sDrop_r (h : a st = .ok x st1) : sDrop a st = .nx st1 := by unfold sDrop; rw [h]; rfl
theorem sIf_r {c : Bool} (ht : t st = .ok c st1) (h : (if c = true then sa st1 else sb st1) = o) : sIf t sa sb st = o := by unfold sIf; rw [ht]; exact h
theorem sRaise_r {c : Nat} (h : a st = .ok x st1) (hd : x.1 = d) : sRaise c a st = .ex c d st1 := by subst hd; unfold sRaise; rw [h]; rfl
theorem sPar_r {d e : D} (h : ea st = .ok [d, e] st1) (hi : ¬(i ∈ P ∨ j ∈ P)) (ho : SO.nx ((st1.set i (.pu d)).set j (.pu e)) = o) : sPar P i j ea st = o := by subst ho; unfold sPar; rw [h]; exact if_neg hi
theorem sPar3_r {k : Nat} {d e g : D} (h : ea st = .ok [d, e, g] st1) (hi : ¬(i ∈ P ∨ j ∈ P ∨ k ∈ P)) (ho : SO.nx (((st1.set i (.pu d)).set j (.pu e)).set k (.pu g)) = o) : sPar3 P i j k ea st = o := by subst ho; unfold sPar3; rw [h]; exact if_neg hi
theorem sUnp_r {is : List Nat} {c : Bool} (h : a st = .ok (.tup ds, c) st1) (h2 : putAll P is ds st1 = o) : sUnp P is a st = o := by unfold sUnp; rw [h]; exact h2
theorem sItem_r {n : Int} {k : Nat} {c : Bool} {d0 : D} (h : b st = .ok x st1) (h0 : slD st1[i]? = some d0) (hx : a st1 = .ok (.int n, c) st2) (h1 : st2[i]? = some (.ow ds)) (hk : ixN ds.length n = some k) : sItem i a b st = .nx (st2.set i (.ow (ds.set k x.1))) := by
  unfold sItem; rw [h]; show (match slD st1[i]? with | none => SO.no | some _ => (a st1).toS _) = _; rw [h0]; show (a st1).toS _ = _; rw [hx]
  show (match st2[i]?, (D.int n) with | some (.ow ds), .int n => (match ixN ds.length n with | some j => SO.nx (st2.set i (.ow (ds.set j x.1))) | none => SO.no) | _, _ => SO.no) = _
  rw [h1]; show (match ixN ds.length n with | some j => SO.nx (st2.set i (.ow (ds.set j x.1))) | none => .no) = _; rw [hk]
theorem sForI_r {put : D → List Sl → SO} {it : EvI} (h : it st = .ok ds st1) (h2 : sFor put sa ds st1 = o) : sForI put it sa st = o := by unfold sForI; rw [h]; exact h2
theorem iSeq_t {c : Bool} (h : a st = .ok (.tup ds, c) st1) : iSeq a st = .ok ds st1 := by unfold iSeq; rw [h]; rfl
theorem iSeq_l {c : Bool} (h : a st = .ok (.lst ds, c) st1) : iSeq a st = .ok ds st1 := by unfold iSeq; rw [h]; rfl
theorem iRng_r {n : Int} {c : Bool} (h : a st = .ok (.int n, c) st1) (hn : -100000 ≤ n ∧ n ≤ 100000) : iRng a st = .ok (rngD 0 n.toNat) st1 := by
  unfold iRng; rw [h]; show (match (if -100000 ≤ n ∧ n ≤ 100000 then some n else none) with | some n => O.ok (rngD 0 n.toNat) st1 | none => .no) = _; rw [if_pos hn]
/-- a def's run -/
theorem def_rt {n np : Nat} {s' st' : List Sl} (hl : st.length = np) (hP : owsAt 0 st = P) (h : sa (st ++ List.replicate (n - np) .un) = .rt z s') (hf : fixS st s' = some st') : defEv n np P sa st = .ok z st' := by
  unfold defEv; rw [if_pos ⟨hl, hP⟩, h]; show (match fixS st s' with | some s => O.ok z s | none => .no) = _; rw [hf]
theorem def_nx {n np : Nat} {s' st' : List Sl} (hl : st.length = np) (hP : owsAt 0 st = P) (h : sa (st ++ List.replicate (n - np) .un) = .nx s') (hf : fixS st s' = some st') : defEv n np P sa st = .ok (.non, false) st' := by
  unfold defEv; rw [if_pos ⟨hl, hP⟩, h]; show (match fixS st s' with | some s => O.ok (D.non, false) s | none => .no) = _; rw [hf]
theorem def_ex {n np c : Nat} {s' st' : List Sl} (hl : st.length = np) (hP : owsAt 0 st = P) (h : sa (st ++ List.replicate (n - np) .un) = .ex c d s') (hf : fixS st s' = some st') : defEv n np P sa st = .ex c d st' := by
  unfold defEv; rw [if_pos ⟨hl, hP⟩, h]; show (match fixS st s' with | some s => O.ex c d s | none => .no) = _; rw [hf]
/-! operators -/
variable {m n : Int}
/-- two factors that may be multiplied -/
abbrev mOk (a b : Int) : Prop := a.natAbs.log2 + b.natAbs.log2 < 1000000
theorem fMul_r (h : mOk m n) : fMul (.int m) (.int n) = some (.int (m * n), false) := by unfold fMul fI; dsimp only; rw [if_pos (decide_eq_true h)]
theorem fDiv_r (h : n ≠ 0 ∧ n.natAbs.log2 < 9000) : fDiv (.int m) (.int n) = some (.int (m.fdiv n), false) := by unfold fDiv fI; dsimp only; rw [if_pos (decide_eq_true h)]
theorem fMod_r (h : n ≠ 0) : fMod (.int m) (.int n) = some (.int (m.fmod n), false) := by unfold fMod fI; dsimp only; rw [if_pos (decide_eq_true h)]
theorem fPow_r (h : 0 ≤ n ∧ n ≤ 1000000 ∧ m.natAbs < 2 ^ 64) : fPow (.int m) (.int n) = some (.int (m ^ n.toNat), false) := by unfold fPow fI; dsimp only; rw [if_pos (decide_eq_true h)]
end
end TX
namespace TX
open PySem L2
theorem fEqI_r {m n : Int} : fEq true (.int m) (.int n) = some (.bl (decide (m = n)), false) := by
  have e : PyData.eqv (.int m) (.int n) = decide (m = n) := by first | rfl | (simp [PyData.eqv]; done) | (unfold PyData.eqv; by_cases h : m = n <;> simp [h])
  show some (D.bl (PyData.eqv (.int m) (.int n) == true), false) = _
  rw [e]
  cases decide (m = n) <;> rfl
theorem fNeI_r {m n : Int} : fEq false (.int m) (.int n) = some (.bl (!decide (m = n)), false) := by
  have e : PyData.eqv (.int m) (.int n) = decide (m = n) := by first | rfl | (simp [PyData.eqv]; done) | (unfold PyData.eqv; by_cases h : m = n <;> simp [h])
  show some (D.bl (PyData.eqv (.int m) (.int n) == false), false) = _
  rw [e]
  cases decide (m = n) <;> rfl
theorem fIx_scr {ns : List Int} {i n : Int} (h : atI ns i = some n) : fIx (.scr ns) (.int i) = some (.int n, false) := by show (atI ns i).map _ = _; rw [h]; rfl
theorem eAnd_r {a b : EvE} {x z : R1} {st st1 st2 : List Sl} {c : Bool} (ha : a st = .ok x st1) (hx : x.1 = .bl c) (h : (if c = true then b st1 else .ok (.bl false, false) st1) = .ok z st2) : eAnd a b st = .ok z st2 := by
  obtain ⟨d, f⟩ := x; cases hx; unfold eAnd; rw [ha]; cases c <;> exact h
theorem eOr_r {a b : EvE} {x z : R1} {st st1 st2 : List Sl} {c : Bool} (ha : a st = .ok x st1) (hx : x.1 = .bl c) (h : (if c = true then .ok (.bl true, false) st1 else b st1) = .ok z st2) : eOr a b st = .ok z st2 := by
  obtain ⟨d, f⟩ := x; cases hx; unfold eOr; rw [ha]; cases c <;> exact h
theorem eNot_r {a : EvE} {x : R1} {st st1 : List Sl} {c : Bool} (ha : a st = .ok x st1) (hx : x.1 = .bl c) : eNot a st = .ok (.bl (!c), false) st1 := by
  obtain ⟨d, f⟩ := x; cases hx; unfold eNot; rw [ha]; rfl
theorem eLc_r {vs : List Nat} {it : EvI} {put : D → List Sl → SO} {t : EvT} {e : EvE} {st st1 st2 st3 : List Sl} {ds : List D} {zs : List D} (h : it st = .ok ds st1) (hn : noOwn st1 vs = true ∧ ds.length ≤ 100000) (hc : cLoop vs put t e ds st1 = .ok zs st2) (hl : st2.length = st1.length) (ho : backS st1 st2 vs = st3) :
    eLc vs it put t e st = .ok (.lst zs, true) st3 := by
  subst ho
  unfold eLc; rw [h]; show (if noOwn st1 vs = true ∧ ds.length ≤ 100000 then _ else O.no) = _; rw [if_pos hn]
  show (match cLoop vs put t e ds st1 with | .ok zs st2 => if st2.length = st1.length then O.ok (D.lst zs, true) (backS st1 st2 vs) else .no | _ => .no) = _
  rw [hc]; show (if st2.length = st1.length then O.ok (D.lst zs, true) (backS st1 st2 vs) else .no) = _; rw [if_pos hl]
theorem cLoop_nil {vs : List Nat} {put : D → List Sl → SO} {t : EvT} {e : EvE} {st : List Sl} : cLoop vs put t e [] st = .ok [] st := rfl
theorem cLoop_f {vs : List Nat} {put : D → List Sl → SO} {t : EvT} {e : EvE} {st st1 st2 : List Sl} {d : D} {r : List D} {o : O (List D)} (hp : put d (wipeS st vs) = .nx st1) (ht : t st1 = .ok false st2) (hn : noOwn st2 vs = true) (h : cLoop vs put t e r st2 = o) : cLoop vs put t e (d :: r) st = o := by
  subst h
  show (match put d (wipeS st vs) with | .nx st1 => (match t st1 with | .ok true st2 => (match e st2 with | .ok z st3 => if noOwn st3 vs = true then (match cLoop vs put t e r st3 with | .ok zs st4 => O.ok (z.1 :: zs) st4 | _ => .no) else .no | _ => .no) | .ok false st2 => if noOwn st2 vs = true then cLoop vs put t e r st2 else .no | _ => .no) | _ => .no) = _
  rw [hp]; dsimp only; rw [ht]; dsimp only; rw [if_pos hn]
theorem cLoop_t {vs : List Nat} {put : D → List Sl → SO} {t : EvT} {e : EvE} {st st1 st2 st3 st4 : List Sl} {d : D} {r zs : List D} {z : R1} (hp : put d (wipeS st vs) = .nx st1) (ht : t st1 = .ok true st2) (he : e st2 = .ok z st3) (hn : noOwn st3 vs = true) (h : cLoop vs put t e r st3 = .ok zs st4) : cLoop vs put t e (d :: r) st = .ok (z.1 :: zs) st4 := by
  show (match put d (wipeS st vs) with | .nx st1 => (match t st1 with | .ok true st2 => (match e st2 with | .ok z st3 => if noOwn st3 vs = true then (match cLoop vs put t e r st3 with | .ok zs st4 => O.ok (z.1 :: zs) st4 | _ => .no) else .no | _ => .no) | .ok false st2 => if noOwn st2 vs = true then cLoop vs put t e r st2 else .no | _ => .no) | _ => .no) = _
  rw [hp]; dsimp only; rw [ht]; dsimp only; rw [he]; dsimp only; rw [if_pos hn, h]
theorem atI_nat {α : Type} {ds : List α} {k : Nat} (h : k < ds.length) : atI ds (k : Int) = some ds[k] := by
  unfold atI ixN
  simp [h]
theorem fIx_tup {ds : List D} {i : Int} {d : D} (h : atI ds i = some d) : fIx (.tup ds) (.int i) = some (d, false) := by show (atI ds i).map _ = _; rw [h]; rfl
theorem fIx_lst {ds : List D} {i : Int} {d : D} (h : atI ds i = some d) : fIx (.lst ds) (.int i) = some (d, false) := by show (atI ds i).map _ = _; rw [h]; rfl
theorem eCallA_io {i : Nat} {st : List Sl} {l l' : List D} {φ : EvE} {z : R1} (h0 : st[i]? = some (.ow l)) (hf : φ [.ow l] = .ok z [.ow l']) : eCallA [.io i] φ st = .ok z (st.set i (.ow l')) := by
  unfold eCallA agEv; rw [h0]; show (if [i].Nodup then _ else O.no) = _; rw [if_pos (by simp)]
  unfold mkArgs; rw [h0]; show (match φ [.ow l] with | .ok z a' => _ | .ex c d a' => _ | .no => O.no) = _; rw [hf]; rfl
theorem eCallA_iov {i : Nat} {st st1 : List Sl} {l l1 l' : List D} {φ e : EvE} {x z : R1} {s : Sl} (h0 : st[i]? = some (.ow l)) (he : e st = .ok x st1) (h1 : st1[i]? = some (.ow l1)) (hf : φ [.ow l1, .pu x.1] = .ok z [.ow l', s]) : eCallA [.io i, .v e] φ st = .ok z (st1.set i (.ow l')) := by
  unfold eCallA agEv; rw [h0]; show (O.bind (O.bind (agEv [.v e] st) _) _) = _
  unfold agEv; rw [he]; show (if [i].Nodup then _ else O.no) = _; rw [if_pos (by simp)]
  unfold mkArgs; rw [h1]; show (match φ [.ow l1, .pu x.1] with | .ok z a' => _ | .ex c d a' => _ | .no => O.no) = _; rw [hf]; rfl
theorem eCallA_tmp {st st1 : List Sl} {l l' : List D} {φ e : EvE} {z : R1} (he : e st = .ok (.lst l, true) st1) (hf : φ [.ow l] = .ok z [.ow l']) : eCallA [.tmp e] φ st = .ok z st1 := by
  unfold eCallA agEv; rw [he]; show (if ([] : List Nat).Nodup then _ else O.no) = _; rw [if_pos (by simp)]
  show (match φ [.ow l] with | .ok z a' => _ | .ex c d a' => _ | .no => O.no) = _; rw [hf]; rfl
theorem eCallK_r {a b : EvA} {m n : Nat} {pm : List D → List D} {φ : EvE} {st st1 st2 a' : List Sl} {ds es : List D} {z : R1} (ha : a st = .ok ds st1) (hb : b st1 = .ok es st2) (hc : ds.length = n ∧ es.length = m) (hf : φ (pus (pm (ds ++ es))) = .ok z a') : eCallK a b m n pm φ st = .ok z st2 := by
  unfold eCallK; rw [ha]; show (b st1).bind _ = _; rw [hb]; show (if ds.length = n ∧ es.length = m then _ else O.no) = _; rw [if_pos hc]
  show (match φ (pus (pm (ds ++ es))) with | .ok z _ => O.ok z st2 | .ex c d _ => .ex c d st2 | .no => .no) = _
  rw [hf]
theorem sWhN_t {t : EvT} {body : EvS} {n : Nat} {st st1 s : List Sl} {o : SO} (h : t st = .ok true st1) (hb : body st1 = .nx s) (h2 : sWhN t body n s = o) : sWhN t body (n + 1) st = o := by
  unfold sWhN; rw [h]; show (if true = true then (match body st1 with | .nx s => sWhN t body n s | .ct s => sWhN t body n s | .bk s => SO.nx s | o => o) else SO.nx st1) = o; rw [if_pos rfl, hb]; exact h2
theorem sWhN_f {t : EvT} {body : EvS} {n : Nat} {st st1 : List Sl} (h : t st = .ok false st1) : sWhN t body (n + 1) st = .nx st1 := by
  unfold sWhN; rw [h]; rfl
theorem sFor_nil {put : D → List Sl → SO} {body : EvS} {st : List Sl} : sFor put body [] st = .nx st := rfl
theorem sFor_cons {put : D → List Sl → SO} {body : EvS} {d : D} {r : List D} {st st1 s : List Sl} {o : SO} (h : put d st = .nx st1) (hb : body st1 = .nx s) (h2 : sFor put body r s = o) : sFor put body (d :: r) st = o := by
  unfold sFor; rw [h]; show (match body st1 with | .nx s => sFor put body r s | .ct s => sFor put body r s | .bk s => SO.nx s | o => o) = o; rw [hb]; exact h2
end TX

end

open TX in
local macro_rules | `(tactic| walk_at "ev1") => `(tactic| first | with_reducible exact eC_r | with_reducible exact aNil_r | with_reducible exact sSkip_r | with_reducible apply eVar_r | with_reducible apply eBin_r | with_reducible apply eUn_r | with_reducible apply eIxV_r | with_reducible apply eBinV_r | with_reducible apply eV1_r | with_reducible apply aCons_r | with_reducible apply eTup_r | with_reducible apply eLst_r | with_reducible apply eIf_r | with_reducible apply eNot_r | with_reducible apply eCallP_r | with_reducible apply tOf_r | with_reducible apply tNot_r | with_reducible apply tAnd_r | with_reducible apply tOr_r | with_reducible apply sSet_r | with_reducible apply putS_r | with_reducible apply putS_ow | with_reducible apply sRet_r | with_reducible apply sSeq_r | with_reducible apply def_rt rfl rfl | with_reducible apply sPar_r | with_reducible apply sPar3_r | with_reducible apply fIx_scr | with_reducible exact fEqI_r | with_reducible exact fNeI_r | with_reducible apply fMul_r | with_reducible apply fDiv_r | with_reducible apply fMod_r | with_reducible apply fPow_r)
open TX in
local macro_rules | `(tactic| walk_at "ev") => `(tactic| repeat' (first | walk_at "ev1" | assumption | exact rfl | decide | (simp; done) | (simp [*]; done)))

section
set_option Elab.async false
set_option linter.all false
set_option maxRecDepth 100000
set_option maxHeartbeats 2000000
/-! runs by rewriting: each combinator at a state -/
namespace TX
open PySem L2
section
variable {st st1 st2 s' : List Sl} {a b e : EvE} {ea eb : EvA} {t u : EvT} {x y z : R1} {d d0 : D} {ds es : List D} {i j k np n : Nat} {P : List Nat} {o : SO} {sa sb : EvS} {α β : Type} {w : α}
theorem bind_ok {f : α → List Sl → O β} : (O.ok w st).bind f = f w st := rfl
theorem bind_ex {f : α → List Sl → O β} : (O.ex k d st : O α).bind f = .ex k d st := rfl
theorem toS_ok {f : α → List Sl → SO} : (O.ok w st).toS f = f w st := rfl
theorem toS_ex {f : α → List Sl → SO} : (O.ex k d st : O α).toS f = .ex k d st := rfl
def SO.seq (o : SO) (b : EvS) : SO := match o with
  | .nx s => b s
  | o => o
theorem seq_nx : SO.seq (.nx st) sb = sb st := rfl
theorem seq_rt : SO.seq (.rt z st) sb = .rt z st := rfl
theorem seq_ex : SO.seq (.ex k d st) sb = .ex k d st := rfl
theorem seq_bk : SO.seq (.bk st) sb = .bk st := rfl
theorem seq_ct : SO.seq (.ct st) sb = .ct st := rfl
theorem sSeq_ap : sSeq sa sb st = SO.seq (sa st) sb := by unfold sSeq SO.seq; cases sa st <;> rfl
theorem sSkip_ap : sSkip st = .nx st := rfl
def optR (o : Option R1) (st : List Sl) : O R1 := match o with
  | some z => .ok z st
  | none => .no
theorem optR_some : optR (some z) st = .ok z st := rfl
def varO (s : Option Sl) (i : Nat) (st : List Sl) : O R1 := match s with
  | some (.pu d) => .ok (d, false) st
  | some (.ow ds) => .ok (.lst ds, false) (st.set i (.pu (.lst ds)))
  | _ => .no
theorem varO_pu : varO (some (.pu d)) i st = .ok (d, false) st := rfl
theorem varO_ow : varO (some (.ow ds)) i st = .ok (.lst ds, false) (st.set i (.pu (.lst ds))) := rfl
theorem eVar_ap : eVar i st = varO st[i]? i st := rfl
theorem eC_ap : eC d st = .ok (d, false) st := rfl
theorem eBin_ap {f : D → D → Option R1} : eBin f a b st = (a st).bind fun x st1 => (b st1).bind fun y st2 => optR (f x.1 y.1) st2 := rfl
theorem eUn_ap {f : D → Option R1} : eUn f a st = (a st).bind fun x st1 => optR (f x.1) st1 := rfl
theorem slD_pu : slD (some (.pu d)) = some d := rfl
theorem slD_ow : slD (some (.ow ds)) = some (.lst ds) := rfl
def slG (o : Option D) (f : D → O R1) : O R1 := match o with
  | some d => f d
  | none => .no
theorem slG_some {f : D → O R1} : slG (some d) f = f d := rfl
theorem eIxV_ap : eIxV i b st = slG (slD st[i]?) fun _ => (b st).bind fun y st1 => slG (slD st1[i]?) fun d => optR (fIx d y.1) st1 := by
  unfold eIxV slG
  cases slD st[i]? with
  | none => rfl
  | some d0 =>
    cases b st with
    | ok y s1 =>
      show (match slD s1[i]? with | none => _ | some d => _) = (match slD s1[i]? with | some d => _ | none => _)
      cases slD s1[i]? <;> rfl
    | ex => rfl
    | no => rfl
theorem eBinV_ap {f : D → D → Option R1} : eBinV f i b st = slG (slD st[i]?) fun _ => (b st).bind fun y st1 => slG (slD st1[i]?) fun d => optR (f d y.1) st1 := by
  unfold eBinV slG
  cases slD st[i]? with
  | none => rfl
  | some d0 =>
    cases b st with
    | ok y s1 =>
      show (match slD s1[i]? with | none => _ | some d => _) = (match slD s1[i]? with | some d => _ | none => _)
      cases slD s1[i]? <;> rfl
    | ex => rfl
    | no => rfl
theorem eV1_ap {f : D → Option R1} : eV1 f i st = slG (slD st[i]?) fun d => optR (f d) st := by unfold eV1 slG; cases slD st[i]? <;> rfl
theorem aNil_ap : aNil st = .ok [] st := rfl
theorem aCons_ap {er : EvA} : aCons a er st = (a st).bind fun x st1 => (er st1).bind fun xs st2 => .ok (x.1 :: xs) st2 := rfl
def lenO (c : D × Bool) (n : Nat) (st : List Sl) : O R1 := if n ≤ 100000 then .ok c st else .no
theorem lenO_ok {c : D × Bool} (h : n ≤ 100000) : lenO c n st = .ok c st := if_pos h
theorem eTup_ap : eTup ea st = (ea st).bind fun ds st1 => lenO (.tup ds, false) ds.length st1 := rfl
theorem eLst_ap : eLst ea st = (ea st).bind fun ds st1 => lenO (.lst ds, true) ds.length st1 := rfl
theorem eIf_ap : eIf t a b st = (t st).bind fun c st1 => if c = true then a st1 else b st1 := rfl
def boolG {α : Type} (o : Option Bool) (f : Bool → O α) : O α := match o with
  | some c => f c
  | none => .no
theorem boolG_some {c : Bool} {f : Bool → O α} : boolG (some c) f = f c := rfl
theorem bool?_bl {c : Bool} : D.bool? (.bl c) = some c := rfl
theorem tOf_ap : tOf a st = (a st).bind fun x st1 => boolG x.1.bool? fun c => .ok c st1 := by unfold tOf boolG; rfl
theorem tNot_ap : tNot' t st = (t st).bind fun c st1 => .ok (!c) st1 := rfl
theorem tAnd_ap : tAnd' t u st = (t st).bind fun c st1 => if c = true then u st1 else .ok false st1 := rfl
theorem tOr_ap : tOr' t u st = (t st).bind fun c st1 => if c = true then .ok true st1 else u st1 := rfl
theorem eAnd_ap : eAnd a b st = (a st).bind fun x st1 => boolG x.1.bool? fun c => if c = true then b st1 else .ok (.bl false, false) st1 := by
  unfold eAnd boolG; cases a st with
  | ok x s => obtain ⟨d, f⟩ := x; cases d <;> first | rfl | (rename_i c; cases c <;> rfl)
  | ex => rfl
  | no => rfl
theorem eOr_ap : eOr a b st = (a st).bind fun x st1 => boolG x.1.bool? fun c => if c = true then .ok (.bl true, false) st1 else b st1 := by
  unfold eOr boolG; cases a st with
  | ok x s => obtain ⟨d, f⟩ := x; cases d <;> first | rfl | (rename_i c; cases c <;> rfl)
  | ex => rfl
  | no => rfl
theorem eNot_ap : eNot a st = (a st).bind fun x st1 => boolG x.1.bool? fun c => .ok (.bl (!c), false) st1 := by unfold eNot boolG; rfl
def callR (o : O R1) (st : List Sl) : O R1 := match o with
  | .ok z _ => .ok z st
  | .ex c d _ => .ex c d st
  | .no => .no
theorem callR_ok : callR (.ok z st1) st = .ok z st := rfl
theorem callR_ex : callR (.ex k d st1) st = .ex k d st := rfl
theorem pus_nil : pus [] = [] := rfl
theorem pus_cons : pus (d :: ds) = .pu d :: pus ds := rfl
theorem eCallP_ap {pm : List D → List D} {φ : EvE} : eCallP ea pm φ st = (ea st).bind fun ds st1 => callR (φ (pus (pm ds))) st1 := by unfold eCallP callR; rfl
theorem eCallI_ap {φ : EvE} : eCallP ea id φ st = (ea st).bind fun ds st1 => callR (φ (pus ds)) st1 := by unfold eCallP callR; rfl
theorem eCallK_ap {m n : Nat} {pm : List D → List D} {φ : EvE} : eCallK ea eb m n pm φ st = (ea st).bind fun ds st1 => (eb st1).bind fun es st2 => if ds.length = n ∧ es.length = m then callR (φ (pus (pm (ds ++ es)))) st2 else .no := by unfold eCallK callR; rfl
/-! calls that write -/
theorem agEv_nil : agEv [] st = .ok [] st := rfl
theorem agEv_v {r : List Ag} : agEv (.v e :: r) st = (e st).bind fun z st1 => (agEv r st1).bind fun os st2 => .ok (some z.1 :: os) st2 := rfl
def agIo (s : Option Sl) (o : O (List (Option D))) : O (List (Option D)) := match s with
  | some (.ow _) => o.bind fun os st2 => .ok (none :: os) st2
  | _ => .no
theorem agIo_ow {q : O (List (Option D))} : agIo (some (.ow ds)) q = q.bind fun os st2 => .ok (none :: os) st2 := rfl
theorem agEv_io {r : List Ag} : agEv (.io i :: r) st = agIo st[i]? (agEv r st) := rfl
def agTm (z : R1) (o : O (List (Option D))) : O (List (Option D)) := match z with
  | (.lst ds, true) => o.bind fun os st2 => .ok (some (.lst ds) :: os) st2
  | _ => .no
theorem agTm_l {q : O (List (Option D))} : agTm (.lst ds, true) q = q.bind fun os st2 => .ok (some (.lst ds) :: os) st2 := rfl
theorem agEv_tmp {r : List Ag} : agEv (.tmp e :: r) st = (e st).bind fun z st1 => agTm z (agEv r st1) := rfl
theorem mk_nil : mkArgs [] [] st = some [] := rfl
theorem mk_v {r : List Ag} {os : List (Option D)} : mkArgs (.v e :: r) (some d :: os) st = (mkArgs r os st).map (.pu d :: ·) := rfl
def mkIo (s : Option Sl) (q : Option (List Sl)) : Option (List Sl) := match s with
  | some (.ow ds) => q.map (.ow ds :: ·)
  | _ => none
theorem mkIo_ow {q : Option (List Sl)} : mkIo (some (.ow ds)) q = q.map (.ow ds :: ·) := rfl
theorem mk_io {r : List Ag} {os : List (Option D)} : mkArgs (.io i :: r) (none :: os) st = mkIo st[i]? (mkArgs r os st) := rfl
theorem mk_tmp {r : List Ag} {os : List (Option D)} : mkArgs (.tmp e :: r) (some (.lst ds) :: os) st = (mkArgs r os st).map (.ow ds :: ·) := rfl
theorem up_nil : updIo [] [] st = some st := rfl
theorem up_v {r : List Ag} {s : Sl} {q : List Sl} : updIo (.v e :: r) (s :: q) st = updIo r q st := by cases s <;> rfl
theorem up_io {r : List Ag} {q : List Sl} : updIo (.io i :: r) (.ow ds :: q) st = updIo r q (st.set i (.ow ds)) := rfl
theorem up_tmp {r : List Ag} {q : List Sl} : updIo (.tmp e :: r) (.ow ds :: q) st = updIo r q st := rfl
theorem ios_nil : iosOf [] = [] := rfl
theorem ios_v {r : List Ag} : iosOf (.v e :: r) = iosOf r := rfl
theorem ios_io {r : List Ag} : iosOf (.io i :: r) = i :: iosOf r := rfl
theorem ios_tmp {r : List Ag} : iosOf (.tmp e :: r) = iosOf r := rfl
def callB (o : O R1) (ags : List Ag) (st1 : List Sl) : O R1 := match o with
    | .ok z a' => match updIo ags a' st1 with
      | some st2 => .ok z st2
      | none => .no
    | .ex c d a' => match updIo ags a' st1 with
      | some st2 => .ex c d st2
      | none => .no
    | .no => .no
def okU (z : R1) (q : Option (List Sl)) : O R1 := match q with
      | some st2 => .ok z st2
      | none => .no
def exU (c : Nat) (d : D) (q : Option (List Sl)) : O R1 := match q with
      | some st2 => .ex c d st2
      | none => .no
theorem okU_some : okU z (some st) = .ok z st := rfl
theorem exU_some : exU k d (some st) = .ex k d st := rfl
theorem callB_ok {ags : List Ag} : callB (.ok z st2) ags st1 = okU z (updIo ags st2 st1) := rfl
theorem callB_ex {ags : List Ag} : callB (.ex k d st2) ags st1 = exU k d (updIo ags st2 st1) := rfl
def callG (q : Option (List Sl)) (f : List Sl → O R1) : O R1 := match q with
  | some a => f a
  | none => .no
theorem callG_some {f : List Sl → O R1} : callG (some st) f = f st := rfl
theorem eCallA_ap {ags : List Ag} {φ : EvE} : eCallA ags φ st = (agEv ags st).bind fun os st1 => if (iosOf ags).Nodup then callG (mkArgs ags os st1) fun a => callB (φ a) ags st1 else .no := by
  unfold eCallA callG callB
  cases agEv ags st with
  | ok os s1 =>
    show (if (iosOf ags).Nodup then _ else _) = (if (iosOf ags).Nodup then _ else _)
    split
    · cases mkArgs ags os s1 <;> rfl
    · rfl
  | ex => rfl
  | no => rfl
/-! statements -/
def putSP (ok : Bool) (i : Nat) (z : R1) (st : List Sl) : SO := if ok = true then (match z with | (.lst ds, true) => .nx (st.set i (.ow ds)) | (d, _) => .nx (st.set i (.pu d))) else .no
def okP (P : List Nat) (i : Nat) (st : List Sl) : Bool := !(P.contains i) && decide (i < st.length)
theorem okP_iff : okP P i st = true ↔ ¬(i ∈ P ∨ st.length ≤ i) := by
  unfold okP
  simp [not_or]
theorem putS_ap : putS P i z st = putSP (okP P i st) i z st := by
  unfold putS putSP
  by_cases h : i ∈ P ∨ st.length ≤ i
  · rw [if_pos h, if_neg (fun q => okP_iff.mp q h)]
  · rw [if_neg h, if_pos (okP_iff.mpr h)]
    try (obtain ⟨d, c⟩ := z; cases d <;> cases c <;> rfl)
theorem putSP_f : putSP true i (d, false) st = .nx (st.set i (.pu d)) := by cases d <;> rfl
theorem putSP_t : putSP true i (.lst ds, true) st = .nx (st.set i (.ow ds)) := rfl
theorem sSet_ap : sSet P i a st = (a st).toS fun z st1 => putSP (okP P i st1) i z st1 := by unfold sSet; cases a st <;> first | rfl | exact putS_ap
theorem sRet_ap : sRet a st = (a st).toS fun z st1 => .rt z st1 := rfl
def retV (s : Option Sl) (P : List Nat) (i : Nat) (st : List Sl) : SO := match s with
  | some (.pu d) => .rt (d, false) st
  | some (.ow ds) => if i ∈ P then .no else .rt (.lst ds, true) (st.set i .un)
  | _ => .no
theorem retV_pu : retV (some (.pu d)) P i st = .rt (d, false) st := rfl
theorem retV_ow : retV (some (.ow ds)) P i st = if P.contains i = true then .no else .rt (.lst ds, true) (st.set i .un) := by unfold retV; by_cases h : i ∈ P <;> simp [h]
theorem sRetV_ap : sRetV P i st = retV st[i]? P i st := rfl
theorem sRetN_ap : sRetN st = .rt (.non, false) st := rfl
theorem sDrop_ap : sDrop a st = (a st).toS fun _ st1 => .nx st1 := rfl
theorem sIf_ap : sIf t sa sb st = (t st).toS fun c st1 => if c = true then sa st1 else sb st1 := rfl
theorem sRaise_ap : sRaise k a st = (a st).toS fun z st1 => .ex k z.1 st1 := rfl
def putN' (ok : Bool) (i : Nat) (d : D) (st : List Sl) : SO := if ok = true then .nx (st.set i (.pu d)) else .no
theorem putN'_t : putN' true i d st = .nx (st.set i (.pu d)) := rfl
theorem putN_ap : putN P i d st = putN' (okP P i st) i d st := by
  unfold putN putN'
  by_cases h : i ∈ P ∨ st.length ≤ i
  · rw [if_pos h, if_neg (fun q => okP_iff.mp q h)]
  · rw [if_neg h, if_pos (okP_iff.mpr h)]
theorem putAll_nil : putAll P [] [] st = .nx st := rfl
theorem putAll_cons {is : List Nat} : putAll P (i :: is) (d :: ds) st = if P.contains i = true then .no else putAll P is ds (st.set i (.pu d)) := by
  show (if i ∈ P then _ else _) = _
  by_cases h : i ∈ P <;> simp [h]
theorem putT_ap {is : List Nat} : putT P is (.tup ds) st = putAll P is ds st := rfl
def unpT (P is : List Nat) (d : D) (st : List Sl) : SO := match d with
  | .tup ds => putAll P is ds st
  | _ => .no
theorem unpT_t {is : List Nat} : unpT P is (.tup ds) st = putAll P is ds st := rfl
theorem sUnp_ap {is : List Nat} : sUnp P is a st = (a st).toS fun z st1 => unpT P is z.1 st1 := rfl
theorem sPar_ap : sPar P i j ea st = (ea st).toS fun ds st1 => putAll P [i, j] ds st1 := by
  unfold sPar
  cases ea st with
  | ok ds s1 =>
    show (match ds with | [d, e] => _ | _ => _) = putAll P [i, j] ds s1
    split
    · next d e =>
      show _ = (if i ∈ P then SO.no else if j ∈ P then SO.no else SO.nx _)
      by_cases h1 : i ∈ P <;> by_cases h2 : j ∈ P <;> simp [h1, h2]
    · next h =>
      match ds, h with
      | [], _ => rfl
      | [a], _ => unfold putAll; split <;> rfl
      | [a, b], h => exact absurd rfl (h a b)
      | a :: b :: c :: r, _ => unfold putAll; split <;> first | rfl | (unfold putAll; split <;> rfl)
  | ex => rfl
  | no => rfl
theorem sPar3_ap : sPar3 P i j k ea st = (ea st).toS fun ds st1 => putAll P [i, j, k] ds st1 := by
  unfold sPar3
  cases ea st with
  | ok ds s1 =>
    show (match ds with | [d, e, g] => _ | _ => _) = putAll P [i, j, k] ds s1
    split
    · next d e g =>
      show _ = (if i ∈ P then SO.no else if j ∈ P then SO.no else if k ∈ P then SO.no else SO.nx _)
      by_cases h1 : i ∈ P <;> by_cases h2 : j ∈ P <;> by_cases h3 : k ∈ P <;> simp [h1, h2, h3]
    · next h =>
      match ds, h with
      | [], _ => rfl
      | [a], _ => unfold putAll; split <;> rfl
      | [a, b], _ => unfold putAll; split <;> first | rfl | (unfold putAll; split <;> rfl)
      | [a, b, c], h => exact absurd rfl (h a b c)
      | a :: b :: c :: d :: r, _ => unfold putAll; split <;> first | rfl | (unfold putAll; split <;> first | rfl | (unfold putAll; split <;> rfl))
  | ex => rfl
  | no => rfl
def itemS (s : Option Sl) (n : D) (x : D) (i : Nat) (st : List Sl) : SO := match s, n with
    | some (.ow ds), .int n => match ixN ds.length n with
      | some j => .nx (st.set i (.ow (ds.set j x)))
      | none => .no
    | _, _ => .no
def itemG (q : Option Nat) (ds : List D) (x : D) (i : Nat) (st : List Sl) : SO := match q with
      | some j => .nx (st.set i (.ow (ds.set j x)))
      | none => .no
theorem itemG_some : itemG (some j) ds d i st = .nx (st.set i (.ow (ds.set j d))) := rfl
theorem itemS_ow {m : Int} : itemS (some (.ow ds)) (.int m) d i st = itemG (ixN ds.length m) ds d i st := rfl
def slS (o : Option D) (q : SO) : SO := match o with
  | some _ => q
  | none => .no
theorem slS_some {q : SO} : slS (some d) q = q := rfl
theorem sItem_ap : sItem i a b st = (b st).toS fun z st1 => slS (slD st1[i]?) ((a st1).toS fun k st2 => itemS st2[i]? k.1 z.1 i st2) := by
  unfold sItem slS itemS
  cases b st with
  | ok z s1 =>
    show (match slD s1[i]? with | none => _ | some _ => _) = (match slD s1[i]? with | some _ => _ | none => _)
    cases slD s1[i]? <;> rfl
  | ex => rfl
  | no => rfl
def appG (s : Option Sl) (x : D) (i : Nat) (st : List Sl) : SO := match s with
    | some (.ow ds) => if ds.length < 100000 then .nx (st.set i (.ow (ds ++ [x]))) else .no
    | _ => .no
theorem appG_ow : appG (some (.ow ds)) d i st = if ds.length < 100000 then .nx (st.set i (.ow (ds ++ [d]))) else .no := rfl
def appS (s : Option Sl) (q : SO) : SO := match s with
  | some (.ow _) => q
  | _ => .no
theorem appS_ow {q : SO} : appS (some (.ow ds)) q = q := rfl
theorem sApp_ap : sApp i a st = appS st[i]? ((a st).toS fun z st1 => appG st1[i]? z.1 i st1) := rfl
theorem sForI_ap {put : D → List Sl → SO} {it : EvI} : sForI put it sa st = (it st).toS fun ds st1 => sFor put sa ds st1 := rfl
def seqI (d : D) (st : List Sl) : O (List D) := match d with
  | .tup ds => .ok ds st
  | .lst ds => .ok ds st
  | .scr ns => .ok (ns.map .int) st
  | _ => .no
theorem seqI_t : seqI (.tup ds) st = .ok ds st := rfl
theorem seqI_l : seqI (.lst ds) st = .ok ds st := rfl
theorem iSeq_ap : iSeq a st = (a st).bind fun z st1 => seqI z.1 st1 := rfl
def zipI (ds : List D) (st : List Sl) : O (List D) := match ds with
  | [.tup xs, .tup ys] => .ok (zipD xs ys) st
  | [.lst xs, .lst ys] => .ok (zipD xs ys) st
  | _ => .no
theorem zipI_t {xs ys : List D} : zipI [.tup xs, .tup ys] st = .ok (zipD xs ys) st := rfl
theorem zipI_l {xs ys : List D} : zipI [.lst xs, .lst ys] st = .ok (zipD xs ys) st := rfl
theorem iZipD_ap : iZipD ea st = (ea st).bind fun ds st1 => zipI ds st1 := rfl
def enumI (d : D) (st : List Sl) : O (List D) := match d with
  | .tup ds => .ok (enumD 0 ds) st
  | .lst ds => .ok (enumD 0 ds) st
  | _ => .no
theorem enumI_t : enumI (.tup ds) st = .ok (enumD 0 ds) st := rfl
theorem enumI_l : enumI (.lst ds) st = .ok (enumD 0 ds) st := rfl
theorem iEnumD_ap : iEnumD a st = (a st).bind fun z st1 => enumI z.1 st1 := rfl
def rngI (d : D) (st : List Sl) : O (List D) := match d.smallInt? with
  | some n => .ok (rngD 0 n.toNat) st
  | none => .no
theorem rngI_ok {m : Int} (h : -100000 ≤ m ∧ m ≤ 100000) : rngI (.int m) st = .ok (rngD 0 m.toNat) st := by
  have e : D.smallInt? (.int m) = some m := if_pos h
  unfold rngI; rw [e]
theorem iRng_ap : iRng a st = (a st).bind fun z st1 => rngI z.1 st1 := rfl
def zipSI (d : D) (st : List Sl) : O (List D) := match d with
  | .tup ds => (match zipS? ds with | some cs => .ok cs st | none => .no)
  | .lst ds => (match zipS? ds with | some cs => .ok cs st | none => .no)
  | _ => .no
def zipSG (q : Option (List D)) (st : List Sl) : O (List D) := match q with | some cs => .ok cs st | none => .no
theorem zipSG_some : zipSG (some ds) st = .ok ds st := rfl
theorem zipSI_t : zipSI (.tup ds) st = zipSG (zipS? ds) st := rfl
theorem zipSI_l : zipSI (.lst ds) st = zipSG (zipS? ds) st := rfl
theorem iZipT_ap : iZipT a st = (a st).bind fun z st1 => zipSI z.1 st1 := rfl
theorem eListI_ap {it : EvI} : eListI it st = (it st).bind fun ds st1 => lenO (.lst ds, true) ds.length st1 := rfl
theorem tTrue_ap : tTrue st = .ok true st := rfl
def chG (o : Option R1) (k : O R1) (st : List Sl) : O R1 := match o with
  | some (.bl true, _) => k
  | some (.bl false, _) => .ok (.bl false, false) st
  | _ => .no
theorem chG_t {k : O R1} {c : Bool} : chG (some (.bl true, c)) k st = k := rfl
theorem chG_f {k : O R1} {c : Bool} : chG (some (.bl false, c)) k st = .ok (.bl false, false) st := rfl
theorem eChain_ap {f f' : D → D → Option R1} {ec : EvE} : eChain f f' a b ec st = (a st).bind fun x st1 => (b st1).bind fun y st2 => chG (f x.1 y.1) ((ec st2).bind fun z st3 => optR (f' y.1 z.1) st3) st2 := by
  unfold eChain chG optR
  cases a st with
  | ok x s1 =>
    show (b s1).bind _ = (b s1).bind _
    cases b s1 with
    | ok y s2 =>
      show (match f x.1 y.1 with | some (.bl true, _) => _ | some (.bl false, _) => _ | _ => _) = (match f x.1 y.1 with | some (.bl true, _) => _ | some (.bl false, _) => _ | _ => _)
      cases f x.1 y.1 with
      | none => rfl
      | some z =>
        obtain ⟨d, c⟩ := z
        cases d with
        | bl k => cases k <;> rfl
        | _ => rfl
    | ex => rfl
    | no => rfl
  | ex => rfl
  | no => rfl
theorem oNone_ap : oNone st = .ok none st := rfl
def intO (d : D) (st : List Sl) : O (Option Int) := match d with
  | .int i => .ok (some i) st
  | _ => .no
theorem intO_i {m : Int} : intO (.int m) st = .ok (some m) st := rfl
theorem oSome_ap : oSome a st = (a st).bind fun z st1 => intO z.1 st1 := rfl
theorem eSl_ap {lo hi : EvO} : eSl a lo hi st = (a st).bind fun x st1 => (lo st1).bind fun l st2 => (hi st2).bind fun h st3 => optR (fSl x.1 l h) st3 := rfl
theorem fSl_t {lo hi : Option Int} : fSl (.tup ds) lo hi = some (.tup (cutD ds lo hi), false) := rfl
theorem fSl_l {lo hi : Option Int} : fSl (.lst ds) lo hi = some (.lst (cutD ds lo hi), true) := rfl
theorem fRev_t : fRev (.tup ds) = some (.tup ds.reverse, false) := rfl
theorem fAbs_i {m : Int} : fAbs (.int m) = some (.int (m.natAbs : Int), false) := by
  show some (D.int (if m < 0 then -m else m), false) = _
  have e : (if m < 0 then -m else m) = (m.natAbs : Int) := by split <;> omega
  rw [e]
theorem fEqI_l {m l : Int} : fEq true (.int m) (.int l) = some (.bl (decide (m = l)), false) := fEqI_r
theorem fNeI_l {m l : Int} : fEq false (.int m) (.int l) = some (.bl (!decide (m = l)), false) := fNeI_r
/-! defs -/
def finD (st : List Sl) (o : SO) : O R1 := match o with
  | .nx st' => okU (.non, false) (fixS st st')
  | .rt z st' => okU z (fixS st st')
  | .ex c d st' => exU c d (fixS st st')
  | _ => .no
theorem finD_nx : finD st (.nx s') = okU (.non, false) (fixS st s') := rfl
theorem finD_rt : finD st (.rt z s') = okU z (fixS st s') := rfl
theorem finD_ex : finD st (.ex k d s') = exU k d (fixS st s') := rfl
theorem defEv_ap : defEv n np P sa st = if (decide (st.length = np) && decide (owsAt 0 st = P)) = true then finD st (sa (st ++ List.replicate (n - np) .un)) else .no := by
  unfold defEv finD okU exU
  by_cases h : st.length = np ∧ owsAt 0 st = P
  · rw [if_pos h, if_pos (by simp [h.1, h.2])]
    try (cases sa (st ++ List.replicate (n - np) .un) <;> rfl)
  · rw [if_neg h, if_neg (by simpa using h)]
theorem fix_nil : fixS [] s' = some [] := by unfold fixS; rfl
theorem fix_ow : fixS (.ow ds :: st) (.ow es :: s') = (fixS st s').map (.ow es :: ·) := rfl
theorem fix_pu {s : Sl} : fixS (.pu d :: st) (s :: s') = (fixS st s').map (.pu d :: ·) := by cases s <;> rfl
theorem map_some' {γ : Type} {f : List Sl → γ} : Option.map f (some st) = some (f st) := rfl
/-! values -/
variable {m l : Int} {p q : D} {xs ys : Str}
theorem ix_t0 : fIx (.tup (p :: ds)) (.int 0) = some (p, false) := by
  show (atI (p :: ds) 0).map _ = _
  have : atI (p :: ds) 0 = some p := by unfold atI ixN; simp
  rw [this]; rfl
theorem ix_l0 : fIx (.lst (p :: ds)) (.int 0) = some (p, false) := by
  show (atI (p :: ds) 0).map _ = _
  have : atI (p :: ds) 0 = some p := by unfold atI ixN; simp
  rw [this]; rfl
theorem atI_one : atI (p :: q :: ds) 1 = some q := by unfold atI ixN; rw [if_pos (by decide), if_pos (by simp only [List.length_cons]; omega)]; rfl
theorem ix_t1 : fIx (.tup (p :: q :: ds)) (.int 1) = some (q, false) := by show (atI (p :: q :: ds) 1).map _ = _; rw [atI_one]; rfl
theorem ix_l1 : fIx (.lst (p :: q :: ds)) (.int 1) = some (q, false) := by show (atI (p :: q :: ds) 1).map _ = _; rw [atI_one]; rfl
theorem fAdd_i : fAdd (.int m) (.int l) = some (.int (m + l), false) := rfl
theorem fSub_i : fSub (.int m) (.int l) = some (.int (m - l), false) := rfl
theorem fNeg_i : fNeg (.int m) = some (.int (-m), false) := rfl
theorem fLt_i : fLt (.int m) (.int l) = some (.bl (decide (m < l)), false) := rfl
theorem fLe_i : fLe (.int m) (.int l) = some (.bl (decide (m ≤ l)), false) := rfl
theorem fGt_i : fGt (.int m) (.int l) = some (.bl (decide (l < m)), false) := rfl
theorem fGe_i : fGe (.int m) (.int l) = some (.bl (decide (l ≤ m)), false) := rfl
theorem fMax_i : fMax2 (.int m) (.int l) = some (.int (if l > m then l else m), false) := rfl
theorem fMin_i : fMin2 (.int m) (.int l) = some (.int (if l < m then l else m), false) := rfl
theorem fLen_t : fLen (.tup ds) = some (.int ds.length, false) := rfl
theorem fLen_l : fLen (.lst ds) = some (.int ds.length, false) := rfl
theorem fLen_s {ns : List Int} : fLen (.scr ns) = some (.int ns.length, false) := rfl
theorem fInt_i : fInt (.int m) = some (.int m, false) := rfl
theorem fTuple_t : fTuple (.tup ds) = some (.tup ds, false) := rfl
theorem fTuple_l : fTuple (.lst ds) = some (.tup ds, false) := rfl
theorem fList_t : fList (.tup ds) = some (.lst ds, true) := rfl
theorem fList_l : fList (.lst ds) = some (.lst ds, true) := rfl
theorem fIs_n {c : Bool} : fIs c p .non = some (.bl (p.isNon == c), false) := rfl
theorem is_t_bool : D.is (.tup ds) .bool = false := rfl
theorem is_t_int : D.is (.tup ds) .int = false := rfl
theorem is_t_str : D.is (.tup ds) .str = false := rfl
theorem is_t_tuple : D.is (.tup ds) .tuple = true := rfl
theorem is_t_list : D.is (.tup ds) .list = false := rfl
theorem isi1_t {T : Ty} : fIsi [T] (.tup ds) = some (.bl (D.is (.tup ds) T || false), false) := rfl
theorem isi2_t {T U : Ty} : fIsi [T, U] (.tup ds) = some (.bl (D.is (.tup ds) T || (D.is (.tup ds) U || false)), false) := rfl
theorem is_l_bool : D.is (.lst ds) .bool = false := rfl
theorem is_l_int : D.is (.lst ds) .int = false := rfl
theorem is_l_str : D.is (.lst ds) .str = false := rfl
theorem is_l_tuple : D.is (.lst ds) .tuple = false := rfl
theorem is_l_list : D.is (.lst ds) .list = true := rfl
theorem isi1_l {T : Ty} : fIsi [T] (.lst ds) = some (.bl (D.is (.lst ds) T || false), false) := rfl
theorem isi2_l {T U : Ty} : fIsi [T, U] (.lst ds) = some (.bl (D.is (.lst ds) T || (D.is (.lst ds) U || false)), false) := rfl
theorem is_i_bool : D.is (.int m) .bool = false := rfl
theorem is_i_int : D.is (.int m) .int = true := rfl
theorem is_i_str : D.is (.int m) .str = false := rfl
theorem is_i_tuple : D.is (.int m) .tuple = false := rfl
theorem is_i_list : D.is (.int m) .list = false := rfl
theorem isi1_i {T : Ty} : fIsi [T] (.int m) = some (.bl (D.is (.int m) T || false), false) := rfl
theorem isi2_i {T U : Ty} : fIsi [T, U] (.int m) = some (.bl (D.is (.int m) T || (D.is (.int m) U || false)), false) := rfl
theorem is_s_bool : D.is (.str xs) .bool = false := rfl
theorem is_s_int : D.is (.str xs) .int = false := rfl
theorem is_s_str : D.is (.str xs) .str = true := rfl
theorem is_s_tuple : D.is (.str xs) .tuple = false := rfl
theorem is_s_list : D.is (.str xs) .list = false := rfl
theorem isi1_s {T : Ty} : fIsi [T] (.str xs) = some (.bl (D.is (.str xs) T || false), false) := rfl
theorem isi2_s {T U : Ty} : fIsi [T, U] (.str xs) = some (.bl (D.is (.str xs) T || (D.is (.str xs) U || false)), false) := rfl
theorem is_b_bool {c : Bool} : D.is (.bl c) .bool = true := rfl
theorem is_b_int {c : Bool} : D.is (.bl c) .int = true := rfl
theorem is_b_str {c : Bool} : D.is (.bl c) .str = false := rfl
theorem is_b_tuple {c : Bool} : D.is (.bl c) .tuple = false := rfl
theorem is_b_list {c : Bool} : D.is (.bl c) .list = false := rfl
theorem isi1_b {c : Bool} {T : Ty} : fIsi [T] (.bl c) = some (.bl (D.is (.bl c) T || false), false) := rfl
theorem isi2_b {c : Bool} {T U : Ty} : fIsi [T, U] (.bl c) = some (.bl (D.is (.bl c) T || (D.is (.bl c) U || false)), false) := rfl
theorem is_n_bool : D.is .non .bool = false := rfl
theorem is_n_int : D.is .non .int = false := rfl
theorem is_n_str : D.is .non .str = false := rfl
theorem is_n_tuple : D.is .non .tuple = false := rfl
theorem is_n_list : D.is .non .list = false := rfl
theorem isi1_n {T : Ty} : fIsi [T] .non = some (.bl (D.is .non T || false), false) := rfl
theorem isi2_n {T U : Ty} : fIsi [T, U] .non = some (.bl (D.is .non T || (D.is .non U || false)), false) := rfl
end
end TX

end

set_option maxRecDepth 100000 in
open TX in
local macro_rules | `(tactic| walk_at "rs") => `(tactic| simp only [defEv_ap, finD_nx, finD_rt, finD_ex, okU_some, exU_some, fix_nil, fix_ow, fix_pu, map_some', bind_ok, bind_ex, toS_ok, toS_ex, seq_nx, seq_rt, seq_ex, seq_bk, seq_ct, sSeq_ap, sSkip_ap, lenO, optR_some, chG_t, chG_f, eChain_ap, oNone_ap, intO_i, oSome_ap, eSl_ap, fSl_t, fSl_l, fRev_t, fAbs_i, fEqI_l, fNeI_l, varO_pu, varO_ow, eVar_ap, eC_ap, eBin_ap, eUn_ap, slD_pu, slD_ow, slG_some, eIxV_ap, eBinV_ap, eV1_ap, aNil_ap, aCons_ap, eTup_ap, eLst_ap, eIf_ap, boolG_some, bool?_bl, tOf_ap, tNot_ap, tAnd_ap, tOr_ap, eAnd_ap, eOr_ap, eNot_ap, callR_ok, callR_ex, pus_nil, pus_cons, eCallI_ap, eCallK_ap, agEv_nil, agEv_v, agIo_ow, agEv_io, agTm_l, agEv_tmp, mk_nil, mk_v, mkIo_ow, mk_io, mk_tmp, up_nil, up_v, up_io, up_tmp, ios_nil, ios_v, ios_io, ios_tmp, callB_ok, callB_ex, callG_some, eCallA_ap, putSP_f, putSP_t, sSet_ap, sRet_ap, retV_pu, retV_ow, sRetV_ap, sRetN_ap, sDrop_ap, sIf_ap, sRaise_ap, putN'_t, putN_ap, putAll_nil, putAll_cons, putT_ap, unpT_t, sUnp_ap, sPar_ap, sPar3_ap, itemG_some, itemS_ow, slS_some, sItem_ap, appG_ow, appS_ow, sApp_ap, sForI_ap, seqI_t, seqI_l, iSeq_ap, zipI_t, zipI_l, iZipD_ap, enumI_t, enumI_l, iEnumD_ap, iRng_ap, zipSG_some, zipSI_t, zipSI_l, iZipT_ap, eListI_ap, tTrue_ap, ix_t0, ix_l0, ix_t1, ix_l1, fAdd_i, fSub_i, fNeg_i, fLt_i, fLe_i, fGt_i, fGe_i, fMax_i, fMin_i, fLen_t, fLen_l, fLen_s, fInt_i, fTuple_t, fTuple_l, fList_t, fList_l, fIs_n, is_t_bool, is_t_int, is_t_str, is_t_tuple, is_t_list, isi1_t, isi2_t, is_l_bool, is_l_int, is_l_str, is_l_tuple, is_l_list, isi1_l, isi2_l, is_i_bool, is_i_int, is_i_str, is_i_tuple, is_i_list, isi1_i, isi2_i, is_s_bool, is_s_int, is_s_str, is_s_tuple, is_s_list, isi1_s, isi2_s, is_b_bool, is_b_int, is_b_str, is_b_tuple, is_b_list, isi1_b, isi2_b, is_n_bool, is_n_int, is_n_str, is_n_tuple, is_n_list, isi1_n, isi2_n, List.getElem?_cons_zero, List.getElem?_cons_succ, List.set_cons_zero, List.set_cons_succ, List.length_cons, List.length_nil, List.cons_append, List.nil_append, List.replicate_zero, List.replicate_succ, okP, owsAt, List.contains_nil, List.contains_cons, List.nodup_cons, List.nodup_nil, List.mem_cons, List.not_mem_nil, beq_iff_eq, beq_self_eq_true, Nat.reduceAdd, Nat.reduceSub, Nat.reduceLT, Nat.reduceEqDiff, Nat.reduceBEq, Nat.reduceLeDiff, Nat.succ_eq_add_one, Nat.zero_add, Nat.add_zero, decide_true, decide_false, Bool.and_true, Bool.true_and, Bool.or_false, Bool.false_or, Bool.or_true, Bool.and_false, Bool.not_true, Bool.not_false, if_true, if_false, reduceIte, ite_true, ite_false, Bool.false_eq_true, decide_eq_true_eq, and_true, true_and, not_false_eq_true, not_true_eq_false, and_false, false_and, or_false, false_or])

set_option maxRecDepth 100000 in
open TX in
local macro_rules | `(tactic| walk_at "rsh") => `(tactic| simp only [defEv_ap, finD_nx, finD_rt, finD_ex, okU_some, exU_some, fix_nil, fix_ow, fix_pu, map_some', bind_ok, bind_ex, toS_ok, toS_ex, seq_nx, seq_rt, seq_ex, seq_bk, seq_ct, sSeq_ap, sSkip_ap, lenO, optR_some, chG_t, chG_f, eChain_ap, oNone_ap, intO_i, oSome_ap, eSl_ap, fSl_t, fSl_l, fRev_t, fAbs_i, fEqI_l, fNeI_l, varO_pu, varO_ow, eVar_ap, eC_ap, eBin_ap, eUn_ap, slD_pu, slD_ow, slG_some, eIxV_ap, eBinV_ap, eV1_ap, aNil_ap, aCons_ap, eTup_ap, eLst_ap, eIf_ap, boolG_some, bool?_bl, tOf_ap, tNot_ap, tAnd_ap, tOr_ap, eAnd_ap, eOr_ap, eNot_ap, callR_ok, callR_ex, pus_nil, pus_cons, eCallI_ap, eCallK_ap, agEv_nil, agEv_v, agIo_ow, agEv_io, agTm_l, agEv_tmp, mk_nil, mk_v, mkIo_ow, mk_io, mk_tmp, up_nil, up_v, up_io, up_tmp, ios_nil, ios_v, ios_io, ios_tmp, callB_ok, callB_ex, callG_some, eCallA_ap, putSP_f, putSP_t, sSet_ap, sRet_ap, retV_pu, retV_ow, sRetV_ap, sRetN_ap, sDrop_ap, sIf_ap, sRaise_ap, putN'_t, putN_ap, putAll_nil, putAll_cons, putT_ap, unpT_t, sUnp_ap, sPar_ap, sPar3_ap, itemG_some, itemS_ow, slS_some, sItem_ap, appG_ow, appS_ow, sApp_ap, sForI_ap, seqI_t, seqI_l, iSeq_ap, zipI_t, zipI_l, iZipD_ap, enumI_t, enumI_l, iEnumD_ap, iRng_ap, zipSG_some, zipSI_t, zipSI_l, iZipT_ap, eListI_ap, tTrue_ap, ix_t0, ix_l0, ix_t1, ix_l1, fAdd_i, fSub_i, fNeg_i, fLt_i, fLe_i, fGt_i, fGe_i, fMax_i, fMin_i, fLen_t, fLen_l, fLen_s, fInt_i, fTuple_t, fTuple_l, fList_t, fList_l, fIs_n, is_t_bool, is_t_int, is_t_str, is_t_tuple, is_t_list, isi1_t, isi2_t, is_l_bool, is_l_int, is_l_str, is_l_tuple, is_l_list, isi1_l, isi2_l, is_i_bool, is_i_int, is_i_str, is_i_tuple, is_i_list, isi1_i, isi2_i, is_s_bool, is_s_int, is_s_str, is_s_tuple, is_s_list, isi1_s, isi2_s, is_b_bool, is_b_int, is_b_str, is_b_tuple, is_b_list, isi1_b, isi2_b, is_n_bool, is_n_int, is_n_str, is_n_tuple, is_n_list, isi1_n, isi2_n, List.getElem?_cons_zero, List.getElem?_cons_succ, List.set_cons_zero, List.set_cons_succ, List.length_cons, List.length_nil, List.cons_append, List.nil_append, List.replicate_zero, List.replicate_succ, okP, owsAt, List.contains_nil, List.contains_cons, List.nodup_cons, List.nodup_nil, List.mem_cons, List.not_mem_nil, beq_iff_eq, beq_self_eq_true, Nat.reduceAdd, Nat.reduceSub, Nat.reduceLT, Nat.reduceEqDiff, Nat.reduceBEq, Nat.reduceLeDiff, Nat.succ_eq_add_one, Nat.zero_add, Nat.add_zero, decide_true, decide_false, Bool.and_true, Bool.true_and, Bool.or_false, Bool.false_or, Bool.or_true, Bool.and_false, Bool.not_true, Bool.not_false, if_true, if_false, reduceIte, ite_true, ite_false, Bool.false_eq_true, decide_eq_true_eq, and_true, true_and, not_false_eq_true, not_true_eq_false, and_false, false_and, or_false, false_or, *])

section
set_option Elab.async false
set_option linter.all false
set_option maxRecDepth 100000
set_option maxHeartbeats 2000000
/-! runs of loops, in general -/
namespace TX
open PySem L2
section
variable {α β : Type} {vs vs1 : List Nat} {put put1 : D → List Sl → SO} {t t1 : EvT} {e : EvE} {it it1 : EvI} {st st0 W : List Sl} {body : EvS}
/-- the turns of a comprehension: S a is the state while a's turn runs, W the state between turns with the targets wiped -/
theorem cLoop_gen (f g : α → D) (p : α → Bool) (S : α → List Sl) : ∀ (L : List α), (∀ a ∈ L, put (f a) W = .nx (S a)) → (∀ a ∈ L, wipeS (S a) vs = W ∧ noOwn (S a) vs = true) → (∀ a ∈ L, t (S a) = .ok (p a) (S a)) → (∀ a ∈ L, p a = true → ∃ b, e (S a) = .ok (g a, b) (S a)) →
    ∀ st, wipeS st vs = W → ∃ s', cLoop vs put t e (L.map f) st = .ok ((L.filter p).map g) s' ∧ (s' = st ∨ ∃ a ∈ L, s' = S a)
  | [], _, _, _, _, st, _ => ⟨st, rfl, .inl rfl⟩
  | a :: L, hp, hw, ht, he, st, h => by
    obtain ⟨s', h1, h2⟩ := cLoop_gen f g p S L (fun b hb => hp b (List.mem_cons_of_mem _ hb)) (fun b hb => hw b (List.mem_cons_of_mem _ hb)) (fun b hb => ht b (List.mem_cons_of_mem _ hb)) (fun b hb => he b (List.mem_cons_of_mem _ hb)) (S a) (hw a List.mem_cons_self).1
    have hp := hp a List.mem_cons_self
    have hw := hw a List.mem_cons_self
    have ht := ht a List.mem_cons_self
    have he := he a List.mem_cons_self
    rw [← h] at hp
    refine ⟨s', ?_, ?_⟩
    · cases hc : p a with
      | true =>
        obtain ⟨b, he⟩ := he hc
        rw [List.filter_cons, if_pos hc]
        rw [hc] at ht
        exact cLoop_t hp ht he hw.2 h1
      | false =>
        rw [List.filter_cons, if_neg (by rw [hc]; decide)]
        rw [hc] at ht
        exact cLoop_f hp ht hw.2 h1
    · rcases h2 with h2 | ⟨b, hb, h2⟩
      · exact .inr ⟨a, List.mem_cons_self, h2⟩
      · exact .inr ⟨b, List.mem_cons_of_mem _ hb, h2⟩
theorem eLc_gen (f g : α → D) (p : α → Bool) (S : α → List Sl) (L : List α) (h : it st0 = .ok (L.map f) st) (hl : L.length ≤ 100000) (ht : ∀ a ∈ L, t (S a) = .ok (p a) (S a)) (he : ∀ a ∈ L, p a = true → ∃ b, e (S a) = .ok (g a, b) (S a))
    (hno : noOwn st vs = true := by rfl) (h0 : backS st st vs = st := by rfl) (hp : ∀ a ∈ L, put (f a) (wipeS st vs) = .nx (S a) := by intros; rfl) (hw : ∀ a ∈ L, (wipeS (S a) vs = wipeS st vs ∧ noOwn (S a) vs = true) ∧ (S a).length = st.length ∧ backS st (S a) vs = st := by intros; exact ⟨⟨rfl, rfl⟩, rfl, rfl⟩) : eLc vs it put t e st0 = .ok (.lst ((L.filter p).map g), true) st := by
  obtain ⟨s', h1, h2⟩ := cLoop_gen f g p S L hp (fun a ha => (hw a ha).1) ht he st rfl
  refine eLc_r h ⟨hno, by rw [List.length_map]; exact hl⟩ h1 ?_ ?_
  · rcases h2 with rfl | ⟨a, ha, rfl⟩
    · rfl
    · exact (hw a ha).2.1
  · rcases h2 with rfl | ⟨a, ha, rfl⟩
    · exact h0
    · exact (hw a ha).2.2
theorem eLc_map (f g : α → D) (S : α → List Sl) (L : List α) (h : it st0 = .ok (L.map f) st) (hl : L.length ≤ 100000) (he : ∀ a ∈ L, ∃ b, e (S a) = .ok (g a, b) (S a))
    (hno : noOwn st vs = true := by rfl) (h0 : backS st st vs = st := by rfl) (hp : ∀ a ∈ L, put (f a) (wipeS st vs) = .nx (S a) := by intros; rfl) (hw : ∀ a ∈ L, (wipeS (S a) vs = wipeS st vs ∧ noOwn (S a) vs = true) ∧ (S a).length = st.length ∧ backS st (S a) vs = st := by intros; exact ⟨⟨rfl, rfl⟩, rfl, rfl⟩) : eLc vs it put tTrue e st0 = .ok (.lst (L.map g), true) st := by
  have := eLc_gen (t := tTrue) f g (fun _ => true) S L h hl (fun a _ => rfl) (fun a ha _ => he a ha) hno h0 hp hw
  rwa [List.filter_eq_self.mpr fun _ _ => rfl] at this
/-- as eLc_map, where the first turn lets go a list that was owned: S0 the state of the first turn, S that of the others -/
theorem eLc_mapF {st' : List Sl} (f g : α → D) (S0 S : α → List Sl) (L : List α) (hL : L ≠ []) (h : it st0 = .ok (L.map f) st) (hl : L.length ≤ 100000) (he0 : ∀ a ∈ L, ∃ b, e (S0 a) = .ok (g a, b) (S a)) (he : ∀ a ∈ L, ∃ b, e (S a) = .ok (g a, b) (S a))
    (hno : noOwn st vs = true := by rfl) (hp0 : ∀ a ∈ L, put (f a) (wipeS st vs) = .nx (S0 a) := by intros; rfl) (hp : ∀ a ∈ L, put (f a) (wipeS st' vs) = .nx (S a) := by intros; rfl)
    (hw : ∀ a ∈ L, (wipeS (S a) vs = wipeS st' vs ∧ noOwn (S a) vs = true) ∧ (S a).length = st.length ∧ backS st (S a) vs = st' := by intros; exact ⟨⟨rfl, rfl⟩, rfl, rfl⟩) : eLc vs it put tTrue e st0 = .ok (.lst (L.map g), true) st' := by
  cases L with
  | nil => exact absurd rfl hL
  | cons a L =>
    have h1 := hw a List.mem_cons_self
    obtain ⟨b, he0⟩ := he0 a List.mem_cons_self
    obtain ⟨s', h2, h3⟩ := cLoop_gen (t := tTrue) f g (fun _ => true) S L (fun c hc => hp c (List.mem_cons_of_mem _ hc)) (fun c hc => (hw c (List.mem_cons_of_mem _ hc)).1) (fun _ _ => rfl) (fun c hc _ => he c (List.mem_cons_of_mem _ hc)) (S a) h1.1.1
    rw [List.filter_eq_self.mpr fun _ _ => rfl] at h2
    refine eLc_r (st2 := s') h ⟨hno, by rw [List.length_map]; exact hl⟩ (cLoop_t (hp0 a List.mem_cons_self) rfl he0 h1.1.2 h2) ?_ ?_
    · rcases h3 with rfl | ⟨c, hc, rfl⟩
      · exact h1.2.1
      · exact (hw c (List.mem_cons_of_mem _ hc)).2.1
    · rcases h3 with rfl | ⟨c, hc, rfl⟩
      · exact h1.2.2
      · exact (hw c (List.mem_cons_of_mem _ hc)).2.2
/-- the turns of all, any: those drawn before one decides -/
theorem aLoop_gen (c : Bool) (f : α → D) (p : α → Bool) (S : α → List Sl) : ∀ (L : List α), (∀ a ∈ L, put (f a) W = .nx (S a)) → (∀ a ∈ L, wipeS (S a) vs = W ∧ noOwn (S a) vs = true) → (∀ a ∈ L, ∃ b, e (S a) = .ok (.bl (p a), b) (S a)) →
    ∀ st, wipeS st vs = W → ∃ s', aLoop vs put tTrue e c (L.map f) st = .ok (if c = true then L.all p else L.any p) s' ∧ (s' = st ∨ ∃ a ∈ L, s' = S a)
  | [], _, _, _, st, _ => ⟨st, by cases c <;> rfl, .inl rfl⟩
  | a :: L, hp, hw, he, st, h => by
    obtain ⟨s', h1, h2⟩ := aLoop_gen c f p S L (fun b hb => hp b (List.mem_cons_of_mem _ hb)) (fun b hb => hw b (List.mem_cons_of_mem _ hb)) (fun b hb => he b (List.mem_cons_of_mem _ hb)) (S a) (hw a List.mem_cons_self).1
    have hp := hp a List.mem_cons_self
    have hw := hw a List.mem_cons_self
    obtain ⟨b, he⟩ := he a List.mem_cons_self
    rw [← h] at hp
    have e1 : aLoop vs put tTrue e c (f a :: L.map f) st = if p a = c then aLoop vs put tTrue e c (L.map f) (S a) else .ok (p a) (S a) := by
      show (match put (f a) (wipeS st vs) with | .nx st1 => (match tTrue st1 with | .ok true st2 => (match e st2 with | .ok z st3 => (match z.1 with | .bl d => if noOwn st3 vs = true then (if d = c then aLoop vs put tTrue e c (L.map f) st3 else .ok d st3) else .no | _ => .no) | _ => .no) | .ok false st2 => if noOwn st2 vs = true then aLoop vs put tTrue e c (L.map f) st2 else .no | _ => .no) | _ => .no) = _
      rw [hp]
      show (match e (S a) with | .ok z st3 => (match z.1 with | .bl d => if noOwn st3 vs = true then (if d = c then aLoop vs put tTrue e c (L.map f) st3 else .ok d st3) else .no | _ => .no) | _ => .no) = _
      rw [he]
      show (if noOwn (S a) vs = true then _ else _) = _
      rw [if_pos hw.2]
    rw [List.map_cons, e1]
    by_cases hc : p a = c
    · rw [if_pos hc]
      refine ⟨s', ?_, ?_⟩
      · rw [h1]
        cases c with
        | true => simp [hc]
        | false => simp [hc]
      · rcases h2 with h2 | ⟨b, hb, h2⟩
        · exact .inr ⟨a, List.mem_cons_self, h2⟩
        · exact .inr ⟨b, List.mem_cons_of_mem _ hb, h2⟩
    · rw [if_neg hc]
      refine ⟨S a, ?_, .inr ⟨a, List.mem_cons_self, rfl⟩⟩
      cases c with
      | true =>
        have hc' : p a = false := by cases h : p a <;> simp_all
        simp [hc']
      | false =>
        have hc' : p a = true := by cases h : p a <;> simp_all
        simp [hc']
theorem eAll_gen (c : Bool) (f : α → D) (p : α → Bool) (S : α → List Sl) (L : List α) (h : it st0 = .ok (L.map f) st) (hl : L.length ≤ 100000) (he : ∀ a ∈ L, ∃ b, e (S a) = .ok (.bl (p a), b) (S a))
    (hno : noOwn st vs = true := by rfl) (h0 : backS st st vs = st := by rfl) (hp : ∀ a ∈ L, put (f a) (wipeS st vs) = .nx (S a) := by intros; rfl) (hw : ∀ a ∈ L, (wipeS (S a) vs = wipeS st vs ∧ noOwn (S a) vs = true) ∧ (S a).length = st.length ∧ backS st (S a) vs = st := by intros; exact ⟨⟨rfl, rfl⟩, rfl, rfl⟩) : eAll c vs it put tTrue e st0 = .ok (.bl (if c = true then L.all p else L.any p), false) st := by
  obtain ⟨s', h1, h2⟩ := aLoop_gen c f p S L hp (fun a ha => (hw a ha).1) he st rfl
  unfold eAll
  rw [h]
  show (if noOwn st vs = true ∧ (L.map f).length ≤ 100000 then _ else O.no) = _
  rw [if_pos ⟨hno, by rw [List.length_map]; exact hl⟩]
  show (match aLoop vs put tTrue e c (L.map f) st with | .ok c st2 => if st2.length = st.length then O.ok (D.bl c, false) (backS st st2 vs) else .no | _ => .no) = _
  rw [h1]
  rcases h2 with rfl | ⟨a, ha, rfl⟩
  · show (if s'.length = s'.length then _ else _) = _
    rw [if_pos rfl, h0]
  · show (if (S a).length = st.length then _ else _) = _
    rw [if_pos (hw a ha).2.1, (hw a ha).2.2]
/-- a for loop: a state that goes along -/
theorem sFor_gen {P : Type} (f : α → D) (step : P → α → P) (I : P → List Sl → Prop) : ∀ (L : List α), (∀ a ∈ L, ∀ b st, I b st → ∃ s1 s2, put (f a) st = .nx s1 ∧ body s1 = .nx s2 ∧ I (step b a) s2) → ∀ b st, I b st → ∃ s', sFor put body (L.map f) st = .nx s' ∧ I (L.foldl step b) s'
  | [], _, b, st, h => ⟨st, rfl, h⟩
  | a :: L, hs, b, st, h => by
    obtain ⟨s1, s2, h1, h2, h3⟩ := hs a List.mem_cons_self b st h
    obtain ⟨s', h4, h5⟩ := sFor_gen f step I L (fun c hc => hs c (List.mem_cons_of_mem _ hc)) (step b a) s2 h3
    refine ⟨s', ?_, h5⟩
    show (match put (f a) st with | .nx st1 => (match body st1 with | .nx s => sFor put body (L.map f) s | .ct s => sFor put body (L.map f) s | .bk s => .nx s | o => o) | o => o) = _
    rw [h1]
    dsimp only
    rw [h2]
    exact h4
/-- the same, the invariant told of what is left, too -/
theorem sFor_rem {P : Type} (f : α → D) (step : P → α → P) (I : P → List α → List Sl → Prop) : ∀ (L : List α), (∀ a ∈ L, ∀ r b st, I b (a :: r) st → ∃ s1 s2, put (f a) st = .nx s1 ∧ body s1 = .nx s2 ∧ I (step b a) r s2) → ∀ b st, I b L st → ∃ s', sFor put body (L.map f) st = .nx s' ∧ I (L.foldl step b) [] s'
  | [], _, b, st, h => ⟨st, rfl, h⟩
  | a :: L, hs, b, st, h => by
    obtain ⟨s1, s2, h1, h2, h3⟩ := hs a List.mem_cons_self L b st h
    obtain ⟨s', h4, h5⟩ := sFor_rem f step I L (fun c hc => hs c (List.mem_cons_of_mem _ hc)) (step b a) s2 h3
    refine ⟨s', ?_, h5⟩
    show (match put (f a) st with | .nx st1 => (match body st1 with | .nx s => sFor put body (L.map f) s | .ct s => sFor put body (L.map f) s | .bk s => .nx s | o => o) | o => o) = _
    rw [h1]
    dsimp only
    rw [h2]
    exact h4
/-- a for loop that may be left by a return -/
theorem sFor_ret (f : α → D) (bad : α → Bool) (I : List Sl → Prop) (z : α → R1) : ∀ (L : List α), (∀ a ∈ L, ∀ st, I st → ∃ s1 s2, put (f a) st = .nx s1 ∧ (if bad a = true then body s1 = .rt (z a) s2 else body s1 = .nx s2) ∧ I s2) → ∀ st, I st →
    ∃ s', I s' ∧ ((L.any bad = false ∧ sFor put body (L.map f) st = .nx s') ∨ ∃ a ∈ L, bad a = true ∧ sFor put body (L.map f) st = .rt (z a) s')
  | [], _, st, h => ⟨st, h, .inl ⟨rfl, rfl⟩⟩
  | a :: L, hs, st, h => by
    obtain ⟨s1, s2, h1, h2, h3⟩ := hs a List.mem_cons_self st h
    have e : sFor put body ((a :: L).map f) st = (match body s1 with | .nx s => sFor put body (L.map f) s | .ct s => sFor put body (L.map f) s | .bk s => .nx s | o => o) := by
      show (match put (f a) st with | .nx st1 => (match body st1 with | .nx s => sFor put body (L.map f) s | .ct s => sFor put body (L.map f) s | .bk s => .nx s | o => o) | o => o) = _
      rw [h1]
    cases hb : bad a with
    | true =>
      rw [if_pos hb] at h2
      exact ⟨s2, h3, .inr ⟨a, List.mem_cons_self, hb, by rw [e, h2]⟩⟩
    | false =>
      rw [if_neg (by rw [hb]; decide)] at h2
      obtain ⟨s', h4, h5⟩ := sFor_ret f bad I z L (fun c hc => hs c (List.mem_cons_of_mem _ hc)) s2 h3
      refine ⟨s', h4, ?_⟩
      rcases h5 with ⟨h5, h6⟩ | ⟨c, hc, h5, h6⟩
      · exact .inl ⟨by simp [hb, h5], by rw [e, h2]; exact h6⟩
      · exact .inr ⟨c, List.mem_cons_of_mem _ hc, h5, by rw [e, h2]; exact h6⟩
/-- two fors -/
theorem cLoop2_gen (inner : List Sl → O (List D)) (f : α → D) (ys : α → List D) (p : α → Bool) (S : α → List Sl) (G : List Sl → Prop) : ∀ (L : List α), (∀ a ∈ L, put (f a) W = .nx (S a)) → (∀ a ∈ L, t (S a) = .ok (p a) (S a)) → (∀ a ∈ L, p a = false → wipeS (S a) vs = W ∧ noOwn (S a) vs = true ∧ G (S a)) →
    (∀ a ∈ L, p a = true → ∃ s, inner (S a) = .ok (ys a) s ∧ wipeS s vs = W ∧ noOwn s vs = true ∧ G s) → ∀ st, wipeS st vs = W → G st → ∃ s', cLoop2 vs put t inner (L.map f) st = .ok ((L.filter p).flatMap ys) s' ∧ G s'
  | [], _, _, _, _, st, _, hG => ⟨st, rfl, hG⟩
  | a :: L, hp, ht, hf, hi, st, h, hG => by
    have ih := cLoop2_gen inner f ys p S G L (fun b hb => hp b (List.mem_cons_of_mem _ hb)) (fun b hb => ht b (List.mem_cons_of_mem _ hb)) (fun b hb => hf b (List.mem_cons_of_mem _ hb)) (fun b hb => hi b (List.mem_cons_of_mem _ hb))
    have hp := hp a List.mem_cons_self
    have ht := ht a List.mem_cons_self
    rw [← h] at hp
    cases hc : p a with
    | true =>
      obtain ⟨s, h1, h2, h3, h4⟩ := hi a List.mem_cons_self hc
      obtain ⟨s', h5, h6⟩ := ih s h2 h4
      refine ⟨s', ?_, h6⟩
      rw [hc] at ht
      rw [List.filter_cons, if_pos hc, List.flatMap_cons]
      show (match put (f a) (wipeS st vs) with | .nx st1 => (match t st1 with | .ok true st2 => (match inner st2 with | .ok ys st3 => if noOwn st3 vs = true then (match cLoop2 vs put t inner (L.map f) st3 with | .ok zs st4 => O.ok (ys ++ zs) st4 | _ => .no) else .no | _ => .no) | .ok false st2 => if noOwn st2 vs = true then cLoop2 vs put t inner (L.map f) st2 else .no | _ => .no) | _ => .no) = _
      rw [hp]; dsimp only; rw [ht]; dsimp only; rw [h1]; dsimp only; rw [if_pos h3, h5]
    | false =>
      obtain ⟨h2, h3, h4⟩ := hf a List.mem_cons_self hc
      obtain ⟨s', h5, h6⟩ := ih (S a) h2 h4
      refine ⟨s', ?_, h6⟩
      rw [hc] at ht
      rw [List.filter_cons, if_neg (by rw [hc]; decide)]
      show (match put (f a) (wipeS st vs) with | .nx st1 => (match t st1 with | .ok true st2 => (match inner st2 with | .ok ys st3 => if noOwn st3 vs = true then (match cLoop2 vs put t inner (L.map f) st3 with | .ok zs st4 => O.ok (ys ++ zs) st4 | _ => .no) else .no | _ => .no) | .ok false st2 => if noOwn st2 vs = true then cLoop2 vs put t inner (L.map f) st2 else .no | _ => .no) | _ => .no) = _
      rw [hp]; dsimp only; rw [ht]; dsimp only; rw [if_pos h3, h5]
/-- [e for x in A for y in B] with no tests: S a while a's turn runs, T a b while b's within it -/
theorem eLc2_map {γ : Type} (f : α → D) (h : γ → D) (g : α → γ → D) (B : α → List γ) (S : α → List Sl) (T : α → γ → List Sl) (L : List α) (hit : it st0 = .ok (L.map f) st) (hl : (L.flatMap B).length ≤ 100000) (hi : ∀ a ∈ L, it1 (S a) = .ok ((B a).map h) (S a)) (he : ∀ a ∈ L, ∀ b ∈ B a, ∃ c, e (T a b) = .ok (g a b, c) (T a b))
    (hno : noOwn st vs = true := by rfl) (h0 : backS st st vs = st := by rfl) (hp : ∀ a ∈ L, put (f a) (wipeS st vs) = .nx (S a) := by intros; rfl)
    (hS : ∀ a ∈ L, noOwn (S a) vs1 = true ∧ wipeS (S a) vs = wipeS st vs ∧ noOwn (S a) vs = true ∧ (S a).length = st.length ∧ backS st (S a) vs = st := by intros; exact ⟨rfl, rfl, rfl, rfl, rfl⟩) (hp1 : ∀ a ∈ L, ∀ b ∈ B a, put1 (h b) (wipeS (S a) vs1) = .nx (T a b) := by intros; rfl)
    (hT : ∀ a ∈ L, ∀ b ∈ B a, (wipeS (T a b) vs1 = wipeS (S a) vs1 ∧ noOwn (T a b) vs1 = true) ∧ wipeS (T a b) vs = wipeS st vs ∧ noOwn (T a b) vs = true ∧ (T a b).length = st.length ∧ backS st (T a b) vs = st := by intros; exact ⟨⟨rfl, rfl⟩, rfl, rfl, rfl, rfl⟩) :
    eLc2 vs vs1 it put tTrue it1 put1 tTrue e st0 = .ok (.lst (L.flatMap fun a => (B a).map (g a)), true) st := by
  obtain ⟨s', h1, h2⟩ := cLoop2_gen (t := tTrue) (vs := vs) (W := wipeS st vs) (inLoop vs1 it1 put1 tTrue e) f (fun a => (B a).map (g a)) (fun _ => true) S (fun s => s.length = st.length ∧ backS st s vs = st) L hp (fun a _ => rfl) (fun a _ z => by cases z) (fun a ha _ => by
    obtain ⟨s, q1, q2⟩ := cLoop_gen (t := tTrue) (e := e) (vs := vs1) (W := wipeS (S a) vs1) h (g a) (fun _ => true) (T a) (B a) (hp1 a ha) (fun b hb => (hT a ha b hb).1) (fun b _ => rfl) (fun b hb _ => he a ha b hb) (S a) rfl
    rw [List.filter_eq_self.mpr fun _ _ => rfl] at q1
    refine ⟨s, ?_, ?_⟩
    · unfold inLoop
      rw [hi a ha]
      show (if noOwn (S a) vs1 = true then _ else O.no) = _
      rw [if_pos (hS a ha).1]
      exact q1
    · rcases q2 with rfl | ⟨b, hb, rfl⟩
      · exact ⟨(hS a ha).2.1, (hS a ha).2.2.1, (hS a ha).2.2.2⟩
      · exact ⟨(hT a ha b hb).2.1, (hT a ha b hb).2.2.1, (hT a ha b hb).2.2.2⟩) st rfl ⟨rfl, h0⟩
  rw [List.filter_eq_self.mpr fun _ _ => rfl] at h1
  have hlen : (L.flatMap fun a => (B a).map (g a)).length = (L.flatMap B).length := by
    rw [List.length_flatMap, List.length_flatMap]
    congr 1
    exact List.map_congr_left fun a _ => List.length_map _
  unfold eLc2
  rw [hit]
  show (if noOwn st vs = true then (match cLoop2 vs put tTrue (inLoop vs1 it1 put1 tTrue e) (L.map f) st with | .ok zs st2 => if st2.length = st.length ∧ zs.length ≤ 100000 then O.ok (D.lst zs, true) (backS st st2 vs) else .no | _ => .no) else .no) = _
  rw [if_pos hno, h1]
  show (if s'.length = st.length ∧ _ then _ else _) = _
  rw [if_pos ⟨h2.1, by rw [hlen]; exact hl⟩, h2.2]
end
end TX
namespace TX
open PySem L2
theorem rng0 (n : Nat) : rngD 0 n = (List.range n).map fun (k : Nat) => D.int (k : Int) := by
  unfold rngD
  exact List.map_congr_left fun k _ => by rw [Int.zero_add]
theorem ix_tm {α : Type} {f : α → D} {L : List α} {k : Nat} (h : k < L.length) : fIx (.tup (L.map f)) (.int (k : Int)) = some (f L[k], false) := by
  have := fIx_tup (atI_nat (ds := L.map f) (k := k) (by rw [List.length_map]; exact h))
  rw [List.getElem_map] at this
  exact this
theorem ix_lm {α : Type} {f : α → D} {L : List α} {k : Nat} (h : k < L.length) : fIx (.lst (L.map f)) (.int (k : Int)) = some (f L[k], false) := by
  have := fIx_lst (atI_nat (ds := L.map f) (k := k) (by rw [List.length_map]; exact h))
  rw [List.getElem_map] at this
  exact this
theorem zipD_map {α β : Type} {f : α → D} {g : β → D} : ∀ (a : List α) (b : List β), zipD (a.map f) (b.map g) = (a.zip b).map fun z => .tup [f z.1, g z.2]
  | [], _ => by unfold zipD; simp
  | x :: r, [] => by unfold zipD; simp
  | x :: r, y :: s => by show zipD (f x :: r.map f) (g y :: s.map g) = _; unfold zipD; rw [zipD_map r s]; rfl
theorem tups?_map {α : Type} {f : α → List D} : ∀ L : List α, D.tups? (L.map fun a => .tup (f a)) = some (L.map f)
  | [] => rfl
  | a :: L => by
    show (match D.tup? (.tup (f a)), D.tups? (L.map fun a => .tup (f a)) with | some r, some rs => some (r :: rs) | _, _ => none) = _
    rw [tups?_map L]; rfl
end TX
namespace TX
open PySem L2
/-- a slot that owns nothing -/
def Nw (x : Sl) : Prop := x = .un ∨ ∃ d, x = .pu d
theorem nw_u : Nw .un := .inl rfl
theorem nw_p (d : D) : Nw (.pu d) := .inr ⟨d, rfl⟩
theorem catL {a b : List D} (h : a.length + b.length ≤ 100000) : fAdd (.lst a) (.lst b) = some (.lst (a ++ b), true) := by
  have e : fCat (.lst a) (.lst b) = some (.lst (a ++ b), true) := if_pos h
  show (match fCat (.lst a) (.lst b) with | some z => some z | none => fCatT (.lst a) (.lst b)) = _
  rw [e]
theorem catT {a b : List D} (h : a.length + b.length ≤ 100000) : fAdd (.tup a) (.tup b) = some (.tup (a ++ b), false) := by
  show fCatT (.tup a) (.tup b) = _
  exact if_pos h
end TX
namespace TX
open PySem L2
theorem cut_to {ds : List D} {k : Nat} (h : k ≤ ds.length) : cutD ds none (some (k : Int)) = ds.take k := by
  unfold cutD
  have e1 : HT.sIx ds.length 0 none = 0 := rfl
  have e2 : HT.sIx ds.length ds.length (some (k : Int)) = k := by
    unfold HT.sIx
    first | (simp; omega) | (dsimp only; split <;> omega)
  rw [e1, e2, Nat.sub_zero, List.drop_zero]
theorem fMul_two {d : D} : fMul (.lst [d]) (.int 2) = some (.lst [d, d], true) := rfl
end TX

end

section
set_option Elab.async false
set_option linter.all false
set_option maxRecDepth 100000
set_option maxHeartbeats 2000000
noncomputable section
namespace G
open PySem L2 TX
abbrev N (p q : Int) : D := .tup [.int p, .int q]
theorem run_law_less (a b c d : Int) (h1 : mOk a d) (h2 : mOk c b) : f__law_less [.pu (N a b), .pu (N c d)] = .ok (.bl (decide (a * d - c * b < 0)), false) [.pu (N a b), .pu (N c d)] := by
  apply def_rt rfl rfl
  · unfold r__law_less
    walk_at "ev"
  · exact rfl
/-- the gcd with the sign of the bottom -/
def sgcd (p q : Int) : Int := if q < 0 then -(Nat.gcd p.natAbs q.natAbs : Int) else (Nat.gcd p.natAbs q.natAbs : Int)
theorem run_number (p q : Int) (h : q ≠ 0) (hs : q.natAbs.log2 < 9000) (hg : sgcd p q ≠ 0 ∧ (sgcd p q).natAbs.log2 < 9000) : f_number [.pu (.int p), .pu (.int q)] = .ok (N (p.fdiv (sgcd p q)) (q.fdiv (sgcd p q)), false) [.pu (.int p), .pu (.int q)] := by
  apply def_rt rfl rfl
  · unfold r_number
    apply sSeq_r
    · apply sIf_r (c := false)
      · walk_at "ev"
      · exact rfl
    · apply sSeq_r
      · walk_at "ev"
      · apply sSeq_r (st1 := [.pu (.int p), .pu (.int q), .pu (.int (sgcd p q))])
        · apply sIf_r (c := decide (q < 0))
          · walk_at "ev"
          · by_cases hq : q < 0
            · rw [if_pos (decide_eq_true hq)]
              have e : sgcd p q = -(Nat.gcd p.natAbs q.natAbs : Int) := if_pos hq
              rw [e]
              walk_at "ev"
            · rw [if_neg (by simp [hq])]
              have e : sgcd p q = (Nat.gcd p.natAbs q.natAbs : Int) := if_neg hq
              rw [e]
              walk_at "ev"
        · walk_at "ev"
  · exact rfl
/-- a deck -/
def Dk (l : List D) : Prop := ∃ a b : Int, l = [.int a, .int b] ∧ 0 ≤ b ∧ b < 2 ^ 64
theorem log2_lt {n : Nat} {k : Nat} (h : n < 2 ^ k) (hk : 0 < k) : n.log2 < k := by
  by_cases h0 : n = 0
  · subst h0; simpa using hk
  · exact (Nat.log2_lt h0).mpr h
theorem run_take {l : List D} (hl : Dk l) (many : Int) (hm : 0 < many) (hs : many.natAbs.log2 < 9000) :
    ∃ (r : Int) (l' : List D), f__law_take [.ow l, .pu (.int many)] = .ok (.int r, false) [.ow l', .pu (.int many)] ∧ 0 ≤ r ∧ r < many ∧ Dk l' := by
  obtain ⟨a, b, rfl, hb1, hb2⟩ := hl
  have hn : many ≠ 0 := by omega
  by_cases ha : 0 < a
  · refine ⟨a.fmod many, [.int (a.fdiv many), .int b], ?_, Int.fmod_nonneg_of_pos a hm, Int.fmod_lt_of_pos a hm, _, _, rfl, hb1, hb2⟩
    apply def_rt rfl rfl
    · unfold r__law_take
      apply sSeq_rt
      apply sIf_r (c := true)
      · walk_at "ev"
      · rw [if_pos rfl]
        apply sSeq_r
        · walk_at "ev"
        · apply sSeq_r
          · apply sItem_r
            walk_at "ev"
          · exact rfl
    · exact rfl
  · refine ⟨_, [.int a, .int ((b * 6364136223846793005 + 1442695040888963407).fmod (2 ^ (Int.toNat 64)))], ?_, Int.fmod_nonneg_of_pos (((b * 6364136223846793005 + 1442695040888963407).fmod (2 ^ (Int.toNat 64))).fdiv (2 ^ (Int.toNat 33))) hm, Int.fmod_lt_of_pos _ hm, _, _, rfl, Int.fmod_nonneg_of_pos _ (by decide), Int.fmod_lt_of_pos _ (by decide)⟩
    have hb : mOk b 6364136223846793005 := by
      have h1 : b.natAbs.log2 < 64 := log2_lt (by omega) (by decide)
      show b.natAbs.log2 + (6364136223846793005 : Nat).log2 < 1000000
      have h2 : (6364136223846793005 : Nat).log2 = 62 := by decide +kernel
      rw [h2]
      omega
    apply def_rt rfl rfl
    · unfold r__law_take
      apply sSeq_r
      · apply sIf_r (c := false)
        · apply tOf_r
          · walk_at "ev"
          · simp [ha]
        · exact rfl
      · apply sSeq_r
        · apply sItem_r
          walk_at "ev"
        · walk_at "ev"
    · exact rfl

theorem mOk_of {a b : Int} {i j : Nat} (ha : a.natAbs < 2 ^ i) (hb : b.natAbs < 2 ^ j) (hi : 0 < i) (hj : 0 < j) (h : i + j ≤ 1000000) : mOk a b := by
  have h1 := log2_lt ha hi
  have h2 := log2_lt hb hj
  show _ + _ < _
  omega
theorem atI_scr {ns : List Int} {k : Int} (h0 : 0 ≤ k) (h1 : k < ns.length) : ∃ c, atI ns k = some c := by
  have hk : k.toNat < ns.length := by omega
  refine ⟨ns[k.toNat], ?_⟩
  unfold atI ixN
  simp [h0, h1]
theorem run_deck (ns : List Int) (k : Int) (h0 : 0 ≤ k) (hk : k ≤ 100000) : ∃ l : List D, f__law_deck [.pu (.scr ns), .pu (.int k)] = .ok (.lst l, true) [.pu (.scr ns), .pu (.int k)] ∧ Dk l := by
  obtain ⟨c, hc⟩ : ∃ c : Int, sIf (tOf (eBin fLt (eVar 1) (eV1 fLen 0))) (sSet [] 2 (eIxV 0 (eVar 1))) sSkip [.pu (.scr ns), .pu (.int k), .pu (.int 0), .un] = .nx [.pu (.scr ns), .pu (.int k), .pu (.int c), .un] := by
    by_cases h : k < ns.length
    · obtain ⟨c, e⟩ := atI_scr h0 h
      refine ⟨c, ?_⟩
      apply sIf_r (c := true)
      · walk_at "ev"
      · rw [if_pos rfl]
        walk_at "ev"
    · refine ⟨0, ?_⟩
      apply sIf_r (c := false)
      · walk_at "ev"
      · exact rfl
  have m1 : mOk 7919 k := mOk_of (i := 13) (j := 17) (by decide) (by omega) (by decide) (by decide) (by decide)
  have g : ∀ x : Int, 0 ≤ x.fmod 2305843009213693951 ∧ x.fmod 2305843009213693951 < 2305843009213693951 := fun x => ⟨Int.fmod_nonneg_of_pos _ (by decide), Int.fmod_lt_of_pos _ (by decide)⟩
  generalize hs : (c + 7919 * k + 104729).fmod 2305843009213693951 = s
  have gs : 0 ≤ s ∧ s < 2305843009213693951 := by rw [← hs]; exact g _
  have m2 : mOk s s := mOk_of (i := 61) (j := 61) (by omega) (by omega) (by decide) (by decide) (by decide)
  have m3 : mOk (s * s) s := mOk_of (i := 122) (j := 61) (by
    rw [Int.natAbs_mul]
    have : s.natAbs < 2 ^ 61 := by omega
    calc s.natAbs * s.natAbs < 2 ^ 61 * 2 ^ 61 := Nat.mul_lt_mul'' this this
      _ = 2 ^ 122 := by decide) (by omega) (by decide) (by decide) (by decide)
  have m4 : mOk 31 k := mOk_of (i := 5) (j := 17) (by decide) (by omega) (by decide) (by decide) (by decide)
  generalize hs2 : (s * s * s + 31 * k + 7).fmod 2305843009213693951 = s2
  have gs2 : 0 ≤ s2 ∧ s2 < 2305843009213693951 := by rw [← hs2]; exact g _
  by_cases hc2 : c < 10 ^ (Int.toNat 18)
  · refine ⟨[.int 0, .int s2], ?_, _, _, rfl, gs2.1, by omega⟩
    apply def_rt rfl rfl
    · unfold r__law_deck
      apply sSeq_r
      · walk_at "ev"
      · apply sSeq_r
        · exact hc
        · apply sSeq_r (st1 := [.pu (.scr ns), .pu (.int k), .pu (.int c), .pu (.int s)])
          · rw [← hs]; walk_at "ev"
          · apply sSeq_r (st1 := [.pu (.scr ns), .pu (.int k), .pu (.int c), .pu (.int s2)])
            · rw [← hs2]; walk_at "ev"
            · apply sSeq_rt
              apply sIf_r (c := true)
              · apply tOf_r
                · walk_at "ev"
                · show D.bl (decide (c < 10 ^ (Int.toNat 18))) = _; rw [decide_eq_true hc2]
              · rw [if_pos rfl]
                walk_at "ev"
    · exact rfl
  · refine ⟨[.int (c - 10 ^ (Int.toNat 18)), .int s2], ?_, _, _, rfl, gs2.1, by omega⟩
    apply def_rt rfl rfl
    · unfold r__law_deck
      apply sSeq_r
      · walk_at "ev"
      · apply sSeq_r
        · exact hc
        · apply sSeq_r (st1 := [.pu (.scr ns), .pu (.int k), .pu (.int c), .pu (.int s)])
          · rw [← hs]; walk_at "ev"
          · apply sSeq_r (st1 := [.pu (.scr ns), .pu (.int k), .pu (.int c), .pu (.int s2)])
            · rw [← hs2]; walk_at "ev"
            · apply sSeq_r
              · apply sIf_r (c := false)
                · apply tOf_r
                  · walk_at "ev"
                  · show D.bl (decide (c < 10 ^ (Int.toNat 18))) = _; rw [decide_eq_false hc2]
                · exact rfl
              · walk_at "ev"
    · exact rfl
end G

end

section
set_option Elab.async false
set_option linter.all false
set_option maxRecDepth 100000
set_option maxHeartbeats 2000000
noncomputable section
namespace G
open PySem L2 TX
theorem gcd_loop : ∀ (v u : Nat), ∃ n, sWhN (tOf (eBinV (fEq false) 1 (eC (.int 0)))) (sPar [] 0 1 (aCons (eVar 1) (aCons (eBin fMod (eV1 fInt 0) (eVar 1)) aNil))) n [.pu (.int (u : Int)), .pu (.int (v : Int))] = .nx [.pu (.int ((Nat.gcd u v : Nat) : Int)), .pu (.int 0)] := by
  intro v
  induction v using Nat.strongRecOn with
  | _ v ih =>
    intro u
    by_cases h : v = 0
    · subst h
      refine ⟨1, ?_⟩
      rw [Nat.gcd_zero_right]
      apply sWhN_f
      walk_at "ev"
    · obtain ⟨n, hn⟩ := ih (u % v) (Nat.mod_lt _ (by omega)) v
      refine ⟨n + 1, ?_⟩
      have hv : (v : Int) ≠ 0 := by omega
      have e : Nat.gcd u v = Nat.gcd v (u % v) := by rw [Nat.gcd_comm u v, Nat.gcd_rec v u, Nat.gcd_comm]
      have e2 : (u : Int).fmod (v : Int) = ((u % v : Nat) : Int) := by rw [Int.fmod_eq_emod_of_nonneg _ (by omega)]; omega
      rw [e]
      apply sWhN_t (s := [.pu (.int (v : Int)), .pu (.int ((u % v : Nat) : Int))])
      · apply tOf_r
        · walk_at "ev"
        · show D.bl (!decide ((v : Int) = 0)) = _
          rw [decide_eq_false hv]
          rfl
      · rw [← e2]
        walk_at "ev"
      · exact hn
theorem run_gcd (u v : Nat) : f__law_gcd [.pu (.int (u : Int)), .pu (.int (v : Int))] = .ok (.int ((Nat.gcd u v : Nat) : Int), false) [.pu (.int (u : Int)), .pu (.int (v : Int))] := by
  obtain ⟨n, hn⟩ := gcd_loop v u
  apply def_rt rfl rfl
  · unfold r__law_gcd
    apply sSeq_r
    · exact sWh_eq hn (by simp)
    · exact rfl
  · exact rfl
/-- a pair in lowest terms, its bottom above 0 -/
def nm (p q : Int) : D := N (p.fdiv (sgcd p q)) (q.fdiv (sgcd p q))
theorem sgcd_ne {p q : Int} (h : q ≠ 0) : sgcd p q ≠ 0 := by
  have : Nat.gcd p.natAbs q.natAbs ≠ 0 := by
    intro e
    have := Nat.eq_zero_of_gcd_eq_zero_right e
    omega
  unfold sgcd
  split <;> omega
theorem sgcd_le {p q : Int} (h : q ≠ 0) : (sgcd p q).natAbs ≤ q.natAbs := by
  have := Nat.gcd_le_right p.natAbs (n := q.natAbs) (by omega)
  unfold sgcd
  split <;> omega
theorem log2_mono {a b : Nat} (h : a ≤ b) : a.log2 ≤ b.log2 := by
  by_cases ha : a = 0
  · subst ha; simp
  · exact (Nat.le_log2 (by omega)).mpr (Nat.le_trans (Nat.log2_self_le ha) h)
theorem run_num {p q : Int} (h : q ≠ 0) (hs : q.natAbs.log2 < 9000) : f_number [.pu (.int p), .pu (.int q)] = .ok (nm p q, false) [.pu (.int p), .pu (.int q)] :=
  run_number p q h hs ⟨sgcd_ne h, Nat.lt_of_le_of_lt (log2_mono (sgcd_le h)) hs⟩
theorem run_pair {p q : Int} (h : q ≠ 0) (hs : q.natAbs.log2 < 9000) : f__law_pair [.pu (.int p), .pu (.int q)] = .ok (nm p q, false) [.pu (.int p), .pu (.int q)] := by
  have hg : sgcd p q ≠ 0 ∧ (sgcd p q).natAbs.log2 < 9000 := ⟨sgcd_ne h, Nat.lt_of_le_of_lt (log2_mono (sgcd_le h)) hs⟩
  have ha : ∀ x : Int, (if x < 0 then -x else x) = (x.natAbs : Int) := fun x => by split <;> omega
  apply def_rt rfl rfl
  · unfold r__law_pair
    apply sSeq_r (st1 := [.pu (.int p), .pu (.int q), .pu (.int ((Nat.gcd p.natAbs q.natAbs : Nat) : Int))])
    · apply sSet_r
      · apply eCallP_r (ds := [.int (p.natAbs : Int), .int (q.natAbs : Int)])
        · rw [← ha p, ← ha q]
          walk_at "ev"
        · exact run_gcd _ _
      · walk_at "ev"
    · apply sSeq_r (st1 := [.pu (.int p), .pu (.int q), .pu (.int (sgcd p q))])
      · apply sIf_r (c := decide (q < 0))
        · walk_at "ev"
        · by_cases hq : q < 0
          · rw [if_pos (decide_eq_true hq)]
            have e : sgcd p q = -(Nat.gcd p.natAbs q.natAbs : Int) := if_pos hq
            rw [e]
            walk_at "ev"
          · rw [if_neg (by simp [hq])]
            have e : sgcd p q = (Nat.gcd p.natAbs q.natAbs : Int) := if_neg hq
            rw [e]
            walk_at "ev"
      · walk_at "ev"
  · exact rfl
end G
end

end

section
set_option Elab.async false
set_option linter.all false
set_option maxRecDepth 100000
set_option maxHeartbeats 2000000
noncomputable section
namespace G
open PySem L2 TX
/-- a number -/
def Nb (p q : Int) : Prop := 0 < q ∧ Nat.gcd p.natAbs q.natAbs = 1
instance (p q : Int) : Decidable (Nb p q) := inferInstanceAs (Decidable (_ ∧ _))
theorem run_whole (p : Int) : f_is_whole [.pu (.int p)] = .ok (.bl true, false) [.pu (.int p)] := by
  apply def_rt (st := [.pu (.int p)]) rfl rfl
  · unfold r_is_whole
    apply sRet_r
    apply eAnd_r (c := true)
    · walk_at "ev"
    · rfl
    · rw [if_pos rfl]
      walk_at "ev"
  · exact rfl
theorem run_isnum (p q : Int) : f_is_number [.pu (N p q)] = .ok (.bl (decide (Nb p q)), false) [.pu (N p q)] := by
  apply def_rt rfl rfl
  · unfold r_is_number
    apply sSeq_r
    · apply sIf_r (c := false)
      · apply tOr_r (c := false)
        · walk_at "ev"
        · rw [if_neg (by decide)]
          walk_at "ev"
      · exact rfl
    · apply sSeq_r (st1 := [.pu (N p q), .pu (.int p), .pu (.int q)])
      · apply sUnp_r
        · walk_at "ev"
        · exact rfl
      · apply sRet_r
        apply eAnd_r (c := true)
        · apply eCallP_r
          · walk_at "ev"
          · exact run_whole p
        · rfl
        · rw [if_pos rfl]
          apply eAnd_r (c := true)
          · apply eCallP_r
            · walk_at "ev"
            · exact run_whole q
          · rfl
          · rw [if_pos rfl]
            apply eAnd_r (c := decide (0 < q))
            · walk_at "ev"
            · rfl
            · by_cases h : 0 < q
              · rw [if_pos (decide_eq_true h)]
                have e : decide (Nb p q) = decide (((Nat.gcd p.natAbs q.natAbs : Nat) : Int) = 1) := by
                  unfold Nb
                  have : (0 < q ∧ Nat.gcd p.natAbs q.natAbs = 1) ↔ ((Nat.gcd p.natAbs q.natAbs : Nat) : Int) = 1 := by constructor <;> intro z <;> omega
                  exact decide_eq_decide.mpr this
                rw [e]
                walk_at "ev"
              · rw [if_neg (by simp [h])]
                have e : decide (Nb p q) = false := decide_eq_false fun z => h z.1
                rw [e]
  · exact rfl
/-- each of these is a number -/
theorem run_checkL : ∀ (l : List (Int × Int)) (d x : Sl), (∀ u ∈ l, Nb u.1 u.2) → ∃ y, sFor (putN [] 1) (sIf (tNot' (tOf (eCallP (aCons (eVar 1) aNil) id f_is_number))) (sRaise 1 (eVar 1)) sSkip) (l.map fun u => N u.1 u.2) [d, x] = .nx [d, y]
  | [], d, x, _ => ⟨x, rfl⟩
  | (p, q) :: l, d, x, h => by
    obtain ⟨y, hy⟩ := run_checkL l d (.pu (N p q)) fun u hu => h u (List.mem_cons_of_mem _ hu)
    refine ⟨y, ?_⟩
    apply sFor_cons (st1 := [d, .pu (N p q)])
    · exact rfl
    · apply sIf_r (c := false)
      · have hn : decide (Nb p q) = true := decide_eq_true (h (p, q) List.mem_cons_self)
        have := run_isnum p q
        rw [hn] at this
        apply tNot_r (c := true)
        apply tOf_r
        · apply eCallP_r
          · walk_at "ev"
          · exact this
        · rfl
      · exact rfl
    · exact hy
theorem run_check2 (a b c d : Int) (h1 : Nb a b) (h2 : Nb c d) : f__check_all [.pu (.tup [N a b, N c d])] = .ok (.non, false) [.pu (.tup [N a b, N c d])] := by
  obtain ⟨y, hy⟩ := run_checkL [(a, b), (c, d)] (.pu (.tup [N a b, N c d])) .un (by
    intro u hu
    simp at hu
    rcases hu with rfl | rfl
    · exact h1
    · exact h2)
  apply def_nx rfl rfl
  · unfold r__check_all
    apply sForI_r
    · apply iSeq_t
      walk_at "ev"
    · exact hy
  · exact rfl
end G
end

end

section
set_option Elab.async false
set_option linter.all false
set_option maxRecDepth 100000
set_option maxHeartbeats 2000000
noncomputable section
namespace G
open PySem L2 TX
/-- trees that the law compares, at most k deep -/
inductive Pt : Nat → D → Prop
  | non (k : Nat) : Pt k .non
  | bl (k : Nat) (b : Bool) : Pt k (.bl b)
  | int (k : Nat) (i : Int) : Pt k (.int i)
  | str (k : Nat) (x : Str) : (PyData.str x).canLay0 = true → Pt k (.str x)
  | tup (k : Nat) (ds : List D) : ds.length ≤ 100000 → (∀ (i : Nat) (h : i < ds.length), Pt k ds[i]) → Pt (k + 1) (.tup ds)
  | lst (k : Nat) (ds : List D) : ds.length ≤ 100000 → (∀ (i : Nat) (h : i < ds.length), Pt k ds[i]) → Pt (k + 1) (.lst ds)
abbrev sameT (me : EvE) : EvT := tNot' (tOf (eCallP (aCons (eIxV 0 (eVar 2)) (aCons (eIxV 1 (eVar 2)) aNil)) id me))
theorem same_loop {me : EvE} {d : D} {ds : List D} (hd : ∀ (i : Nat) (h : i < ds.length), fIx d (.int (i : Int)) = some (ds[i], false)) (ih : ∀ (i : Nat) (h : i < ds.length), me [.pu ds[i], .pu ds[i]] = .ok (.bl true, false) [.pu ds[i], .pu ds[i]]) :
    ∀ (ks : List Nat) (x : Sl), (∀ ds', x ≠ .ow ds') → (∀ k ∈ ks, k < ds.length) → ∃ y, cLoop [2] (putN [] 2) (sameT me) (eVar 2) (ks.map fun (k : Nat) => .int (0 + (k : Int))) [.pu d, .pu d, x] = .ok [] [.pu d, .pu d, y]
  | [], x, _, _ => ⟨x, rfl⟩
  | k :: ks, x, hx, h => by
    have hk := h k List.mem_cons_self
    obtain ⟨y, hy⟩ := same_loop hd ih ks (.pu (.int (0 + (k : Int)))) (fun _ z => by cases z) fun j hj => h j (List.mem_cons_of_mem _ hj)
    refine ⟨y, ?_⟩
    have e0 : (0 : Int) + (k : Int) = (k : Int) := Int.zero_add _
    have hi := hd k hk
    rw [← e0] at hi
    apply cLoop_f (st1 := [.pu d, .pu d, .pu (.int (0 + (k : Int)))]) (st2 := [.pu d, .pu d, .pu (.int (0 + (k : Int)))])
    · exact rfl
    · apply tNot_r (c := true)
      apply tOf_r (x := (.bl true, false))
      · apply eCallP_r (ds := [ds[k], ds[k]])
        · apply aCons_r
          · apply eIxV_r (d0 := d)
            · exact rfl
            · walk_at "ev"
            · exact rfl
            · exact hi
          · apply aCons_r
            · apply eIxV_r (d0 := d)
              · exact rfl
              · walk_at "ev"
              · exact rfl
              · exact hi
            · exact aNil_r
            · exact rfl
          · exact rfl
        · exact ih k hk
      · rfl
    · exact rfl
    · exact hy
theorem same_seq {me : EvE} {d : D} {ds : List D} (h0 : fLen d = some (.int (ds.length : Int), false)) (hl : ds.length ≤ 100000) (hd : ∀ (i : Nat) (h : i < ds.length), fIx d (.int (i : Int)) = some (ds[i], false))
    (ih : ∀ (i : Nat) (h : i < ds.length), me [.pu ds[i], .pu ds[i]] = .ok (.bl true, false) [.pu ds[i], .pu ds[i]]) :
    eLc [2] (iRng (eV1 fLen 1)) (putN [] 2) (sameT me) (eVar 2) [.pu d, .pu d, .un] = .ok (.lst [], true) [.pu d, .pu d, .un] := by
  obtain ⟨y, hy⟩ := same_loop hd ih (List.range ds.length) .un (fun _ z => by cases z) fun k hk => List.mem_range.mp hk
  apply eLc_r (st1 := [.pu d, .pu d, .un])
  · apply iRng_r
    · apply eV1_r
      · exact rfl
      · exact h0
    · omega
  · refine ⟨rfl, ?_⟩
    unfold rngD
    simp
    exact hl
  · unfold rngD
    rw [Int.toNat_natCast]
    exact hy
  · exact rfl
  · exact rfl
theorem eqv_str (x : Str) : PyData.eqv (.str x) (.str x) = true := by
  first | rfl | (simp [PyData.eqv]; done) | (unfold PyData.eqv; simp)
theorem eqv_bl (b : Bool) : PyData.eqv (.bool b) (.bool b) = true := by cases b <;> first | rfl | (simp [PyData.eqv]; done)
theorem fEq_str (x : Str) (h : (PyData.str x).canLay0 = true) : fEq true (.str x) (.str x) = some (.bl true, false) := by
  have hs : SeqAt.shaped (PyData.str x) = true := by unfold SeqAt.shaped; rw [h]; rfl
  show (if (SeqAt.shaped (PyData.str x) && SeqAt.shaped (PyData.str x)) = true then some (D.bl (PyData.eqv (.str x) (.str x) == true), false) else none) = _
  rw [hs, eqv_str]; rfl
theorem fEq_bl (b : Bool) : fEq true (.bl b) (.bl b) = some (.bl true, false) := by
  show some (D.bl (PyData.eqv (.bool b) (.bool b) == true), false) = _
  rw [eqv_bl]; rfl
abbrev at3 (d : D) : List Sl := [.pu d, .pu d, .un]
/-- no list, no tuple: the first if is passed -/
theorem run_same0 (k : Nat) : ∀ d : D, Pt 0 d → f__law_same (k + 1) [.pu d, .pu d] = .ok (.bl true, false) [.pu d, .pu d]
  | _, .non _ => rfl
  | _, .bl _ b => by cases b <;> rfl
  | _, .int _ i => by
    apply def_rt (st := [.pu (.int i), .pu (.int i)]) rfl rfl
    · unfold r__law_same
      apply sSeq_r
      · apply sIf_r (c := false)
        · walk_at "ev"
        · exact rfl
      · apply sSeq_r
        · apply sIf_r (c := false)
          · walk_at "ev"
          · exact rfl
        · apply sSeq_r
          · apply sIf_r (c := false)
            · walk_at "ev"
            · exact rfl
          · apply sSeq_r
            · apply sIf_r (c := false)
              · apply tOr_r (c := false)
                · walk_at "ev"
                · rw [if_neg (by decide)]; walk_at "ev"
              · exact rfl
            · apply sRet_r
              apply eAnd_r (c := true)
              · walk_at "ev"
              · rfl
              · rw [if_pos rfl]
                apply eBinV_r
                · exact rfl
                · walk_at "ev"
                · exact rfl
                · rw [fEqI_r]; simp
    · exact rfl
  | _, .str _ x hx => by
    apply def_rt (st := [.pu (.str x), .pu (.str x)]) rfl rfl
    · unfold r__law_same
      apply sSeq_r
      · apply sIf_r (c := false)
        · walk_at "ev"
        · exact rfl
      · apply sSeq_r
        · apply sIf_r (c := false)
          · walk_at "ev"
          · exact rfl
        · apply sSeq_rt
          · apply sIf_r (c := true)
            · walk_at "ev"
            · rw [if_pos rfl]
              apply sRet_r
              apply eAnd_r (c := true)
              · walk_at "ev"
              · rfl
              · rw [if_pos rfl]
                apply eBinV_r
                · exact rfl
                · walk_at "ev"
                · exact rfl
                · exact fEq_str x hx
    · exact rfl
theorem pt_mono {k : Nat} {d : D} (h : Pt k d) : ∀ j, k ≤ j → Pt j d := by
  induction h with
  | non => exact fun j _ => .non j
  | bl k b => exact fun j _ => .bl j b
  | int k i => exact fun j _ => .int j i
  | str k x h => exact fun j _ => .str j x h
  | tup k ds hl h ih =>
    intro j hj
    obtain ⟨m, rfl⟩ : ∃ m, j = m + 1 := ⟨j - 1, by omega⟩
    exact .tup m ds hl fun i hi => ih i hi m (by omega)
  | lst k ds hl h ih =>
    intro j hj
    obtain ⟨m, rfl⟩ : ∃ m, j = m + 1 := ⟨j - 1, by omega⟩
    exact .lst m ds hl fun i hi => ih i hi m (by omega)
theorem run_same1 (k : Nat) (d : D) (ds : List D) (hd' : d = .tup ds ∨ d = .lst ds) (hl : ds.length ≤ 100000) (ih : ∀ (i : Nat) (h : i < ds.length), f__law_same (k + 1) [.pu ds[i], .pu ds[i]] = .ok (.bl true, false) [.pu ds[i], .pu ds[i]]) : f__law_same (k + 2) [.pu d, .pu d] = .ok (.bl true, false) [.pu d, .pu d] := by
  have h0 : fLen d = some (.int (ds.length : Int), false) := by rcases hd' with rfl | rfl <;> rfl
  have hd : ∀ (i : Nat) (h : i < ds.length), fIx d (.int (i : Int)) = some (ds[i], false) := fun i h => by
    rcases hd' with rfl | rfl
    · exact fIx_tup (atI_nat h)
    · exact fIx_lst (atI_nat h)
  have seq := same_seq (me := f__law_same (k + 1)) h0 hl hd ih
  have ht : fIsi [.tuple, .list] d = some (.bl true, false) := by rcases hd' with rfl | rfl <;> rfl
  obtain ⟨c, hc⟩ : ∃ c, fIsi [.tuple] d = some (.bl c, false) := by rcases hd' with rfl | rfl <;> exact ⟨_, rfl⟩
  obtain ⟨c', hc'⟩ : ∃ c, fIsi [.list] d = some (.bl c, false) := by rcases hd' with rfl | rfl <;> exact ⟨_, rfl⟩
  have hne : ∀ b : Bool, fEq false (.bl b) (.bl b) = some (.bl false, false) := fun b => by cases b <;> rfl
  have hne2 : fEq false (.int (ds.length : Int)) (.int (ds.length : Int)) = some (.bl false, false) := by rw [fNeI_r]; simp
  apply def_rt (st := [.pu d, .pu d]) rfl rfl
  · unfold r__law_same
    apply sSeq_rt
    apply sIf_r (c := true)
    · apply tOf_r
      · apply eV1_r
        · exact rfl
        · exact ht
      · rfl
    · rw [if_pos rfl]
      apply sSeq_r
      · apply sIf_r (c := false)
        · apply tOr_r (c := false)
          · apply tOf_r
            · apply eBin_r
              · apply eV1_r
                · exact rfl
                · exact hc
              · apply eV1_r
                · exact rfl
                · exact hc
              · exact hne c
            · rfl
          · rw [if_neg (by decide)]
            apply tOf_r
            · apply eBin_r
              · apply eV1_r
                · exact rfl
                · exact hc'
              · apply eV1_r
                · exact rfl
                · exact hc'
              · exact hne c'
            · rfl
        · exact rfl
      · apply sSeq_r
        · apply sIf_r (c := false)
          · apply tOf_r
            · apply eBin_r
              · apply eV1_r
                · exact rfl
                · exact h0
              · apply eV1_r
                · exact rfl
                · exact h0
              · exact hne2
            · rfl
          · exact rfl
        · apply sRet_r
          apply eBin_r
          · exact seq
          · apply eLst_r
            · exact aNil_r
            · decide
            · exact rfl
          · exact rfl
  · exact rfl
theorem run_same : ∀ (k : Nat) (d : D), Pt k d → f__law_same (k + 1) [.pu d, .pu d] = .ok (.bl true, false) [.pu d, .pu d]
  | 0, d, h => run_same0 0 d h
  | k + 1, d, h => by
    cases h with
    | tup _ ds hl h => exact run_same1 k _ ds (.inl rfl) hl fun i hi => run_same k _ (h i hi)
    | lst _ ds hl h => exact run_same1 k _ ds (.inr rfl) hl fun i hi => run_same k _ (h i hi)
    | non => exact run_same0 _ _ (.non 0)
    | bl _ b => exact run_same0 _ _ (.bl 0 b)
    | int _ i => exact run_same0 _ _ (.int 0 i)
    | str _ x hx => exact run_same0 _ _ (.str 0 x hx)
theorem same_ok {A B : EvE} {st st1 st2 : List Sl} {d : D} {x y : R1} (ha : A st = .ok x st1) (hb : B st1 = .ok y st2) (hx : x.1 = d) (hy : y.1 = d) (h : Pt 7 d) : eCallP (aCons A (aCons B aNil)) id (f__law_same 8) st = .ok (.bl true, false) st2 := by
  apply eCallP_r (ds := [d, d])
  · apply aCons_r
    · exact ha
    · apply aCons_r
      · exact hb
      · exact aNil_r
      · exact hy
    · exact hx
  · exact run_same 7 d h
theorem same_not {A B : EvE} {st st1 st2 : List Sl} {d : D} {x y : R1} (ha : A st = .ok x st1) (hb : B st1 = .ok y st2) (hx : x.1 = d) (hy : y.1 = d) (h : Pt 7 d) : tNot' (tOf (eCallP (aCons A (aCons B aNil)) id (f__law_same 8))) st = .ok false st2 := by
  apply tNot_r (c := true)
  apply tOf_r
  · exact same_ok ha hb hx hy h
  · rfl
theorem pt_l {k : Nat} {ds : List D} (hl : ds.length ≤ 100000) (h : ∀ d ∈ ds, Pt k d) : Pt (k + 1) (.lst ds) := .lst k ds hl fun i hi => h _ (List.getElem_mem hi)
theorem pt_t {k : Nat} {ds : List D} (hl : ds.length ≤ 100000) (h : ∀ d ∈ ds, Pt k d) : Pt (k + 1) (.tup ds) := .tup k ds hl fun i hi => h _ (List.getElem_mem hi)
end G
end

end

section
set_option Elab.async false
set_option linter.all false
set_option maxRecDepth 100000
set_option maxHeartbeats 2000000
noncomputable section
namespace G
open PySem L2 TX
theorem run_lplus (a b c d : Int) (hb : b * d ≠ 0) (s1 : mOk a d) (s2 : mOk c b) (s3 : mOk b d) (hs : (b * d).natAbs.log2 < 9000) : f__law_plus [.pu (N a b), .pu (N c d)] = .ok (nm (a * d + c * b) (b * d), false) [.pu (N a b), .pu (N c d)] := by
  apply def_rt rfl rfl
  · unfold r__law_plus
    apply sRet_r
    apply eCallP_r
    · walk_at "ev"
    · exact run_pair hb hs
  · exact rfl
theorem run_ltimes (a b c d : Int) (hb : b * d ≠ 0) (s1 : mOk a c) (s3 : mOk b d) (hs : (b * d).natAbs.log2 < 9000) : f__law_times [.pu (N a b), .pu (N c d)] = .ok (nm (a * c) (b * d), false) [.pu (N a b), .pu (N c d)] := by
  apply def_rt rfl rfl
  · unfold r__law_times
    apply sRet_r
    apply eCallP_r
    · walk_at "ev"
    · exact run_pair hb hs
  · exact rfl
theorem low_terms {p q : Int} (h : q ≠ 0) : ∃ (g : Nat) (a b : Int), 0 < g ∧ p = g * a ∧ q = g * b ∧ Nat.gcd a.natAbs b.natAbs = 1 ∧ g = Nat.gcd p.natAbs q.natAbs := by
  have hg : 0 < Nat.gcd p.natAbs q.natAbs := Nat.gcd_pos_of_pos_right _ (by omega)
  obtain ⟨a, ha⟩ : ((Nat.gcd p.natAbs q.natAbs : Nat) : Int) ∣ p := Int.ofNat_dvd_left.mpr (Nat.gcd_dvd_left _ _)
  obtain ⟨b, hb⟩ : ((Nat.gcd p.natAbs q.natAbs : Nat) : Int) ∣ q := Int.ofNat_dvd_left.mpr (Nat.gcd_dvd_right _ _)
  refine ⟨Nat.gcd p.natAbs q.natAbs, a, b, hg, ha, hb, ?_, rfl⟩
  generalize hgg : Nat.gcd p.natAbs q.natAbs = g at *
  have e : Nat.gcd p.natAbs q.natAbs = g * Nat.gcd a.natAbs b.natAbs := by
    rw [ha, hb, Int.natAbs_mul, Int.natAbs_mul, Int.natAbs_natCast, Nat.gcd_mul_left]
  rw [hgg] at e
  have : g * Nat.gcd a.natAbs b.natAbs = g * 1 := by omega
  exact Nat.eq_of_mul_eq_mul_left hg this
theorem nm_eq {p q : Int} (h : q ≠ 0) : ∃ (g : Nat) (a b : Int), 0 < g ∧ Nb a b ∧ nm p q = N a b ∧ ((p = g * a ∧ q = g * b) ∨ (p = g * (-a) ∧ q = g * (-b))) := by
  obtain ⟨g, a, b, hg, hp, hq, hc, eg⟩ := low_terms (p := p) h
  have hg' : (g : Int) ≠ 0 := by omega
  have d1 : ∀ x : Int, ((g : Int) * x).fdiv (g : Int) = x := fun x => by rw [Int.fdiv_eq_ediv_of_dvd ⟨x, rfl⟩, Int.mul_ediv_cancel_left _ hg']
  have d2 : ∀ x : Int, ((g : Int) * x).fdiv (-(g : Int)) = -x := fun x => by rw [Int.fdiv_eq_ediv_of_dvd ⟨-x, by rw [Int.neg_mul_neg]⟩, Int.ediv_neg, Int.mul_ediv_cancel_left _ hg']
  by_cases hn : q < 0
  · have hb : b < 0 := by
      rcases Int.lt_trichotomy b 0 with z | z | z
      · exact z
      · rw [z, Int.mul_zero] at hq; omega
      · have := Int.mul_pos (show (0 : Int) < g by omega) z; omega
    refine ⟨g, -a, -b, hg, ⟨by omega, by rw [Int.natAbs_neg, Int.natAbs_neg]; exact hc⟩, ?_, .inr ⟨by rw [Int.neg_neg]; exact hp, by rw [Int.neg_neg]; exact hq⟩⟩
    have e : sgcd p q = -(g : Int) := by unfold sgcd; rw [if_pos hn, ← eg]
    unfold nm
    rw [e, hp, hq, d2, d2]
  · have hb : 0 < b := by
      rcases Int.lt_trichotomy b 0 with z | z | z
      · have := Int.mul_neg_of_pos_of_neg (show (0 : Int) < g by omega) z; omega
      · rw [z, Int.mul_zero] at hq; omega
      · exact z
    refine ⟨g, a, b, hg, ⟨hb, hc⟩, ?_, .inl ⟨hp, hq⟩⟩
    have e : sgcd p q = (g : Int) := by unfold sgcd; rw [if_neg hn, ← eg]
    unfold nm
    rw [e, hp, hq, d1, d1]
theorem nm_id {p q : Int} (h : Nb p q) : nm p q = N p q := by
  obtain ⟨h1, h2⟩ := h
  have e : sgcd p q = 1 := by unfold sgcd; rw [if_neg (by omega), h2]; rfl
  unfold nm
  rw [e, Int.fdiv_one, Int.fdiv_one]
def Gd (B : Nat) (d : D) : Prop := ∃ a b : Int, d = N a b ∧ Nb a b ∧ a.natAbs < 2 ^ B ∧ b.natAbs < 2 ^ B
theorem abs_le_mul {g : Nat} {a : Int} (hg : 0 < g) : a.natAbs ≤ ((g : Int) * a).natAbs := by
  rw [Int.natAbs_mul, Int.natAbs_natCast]
  exact Nat.le_mul_of_pos_left _ hg
theorem nm_gd {B : Nat} {p q : Int} (h : q ≠ 0) (hp : p.natAbs < 2 ^ B) (hq : q.natAbs < 2 ^ B) : Gd B (nm p q) := by
  obtain ⟨g, a, b, hg, hn, e, hh⟩ := nm_eq (p := p) h
  refine ⟨a, b, e, hn, ?_, ?_⟩
  · rcases hh with ⟨h1, _⟩ | ⟨h1, _⟩
    · have := abs_le_mul (a := a) hg; rw [← h1] at this; omega
    · have := abs_le_mul (a := -a) hg; rw [← h1, Int.natAbs_neg] at this; omega
  · rcases hh with ⟨_, h1⟩ | ⟨_, h1⟩
    · have := abs_le_mul (a := b) hg; rw [← h1] at this; omega
    · have := abs_le_mul (a := -b) hg; rw [← h1, Int.natAbs_neg] at this; omega
theorem Gd.mono {B C : Nat} {d : D} (h : Gd B d) (hc : B ≤ C) : Gd C d := by
  obtain ⟨a, b, e, hn, h1, h2⟩ := h
  have := Nat.pow_le_pow_right (show 0 < 2 by decide) hc
  exact ⟨a, b, e, hn, by omega, by omega⟩
theorem log_lt {B : Nat} {n : Nat} (h : n < 2 ^ B) (h0 : 0 < B) (hB : B ≤ 8000) : n.log2 < 9000 := by
  have := log2_lt h h0
  omega
theorem mul_step {t a : Int} {i j : Nat} (h : t.natAbs < 2 ^ i) (h2 : a.natAbs < 2 ^ j) : (t * a).natAbs < 2 ^ (i + j) := by
  rw [Int.natAbs_mul, Nat.pow_add]
  exact Nat.mul_lt_mul'' h h2
end G
end

end

section
set_option Elab.async false
set_option linter.all false
set_option maxRecDepth 100000
set_option maxHeartbeats 2000000
set_option exponentiation.threshold 10000
noncomputable section
namespace G
open PySem L2 TX
abbrev Np (u : Int × Int) : D := N u.1 u.2
def nmP (p q : Int) : Int × Int := (p.fdiv (sgcd p q), q.fdiv (sgcd p q))
theorem nm_np (p q : Int) : nm p q = Np (nmP p q) := rfl
def plusP (u v : Int × Int) : Int × Int := nmP (u.1 * v.2 + v.1 * u.2) (u.2 * v.2)
/-- a number of fewer than B bits -/
def Gp (B : Nat) (u : Int × Int) : Prop := Nb u.1 u.2 ∧ u.1.natAbs < 2 ^ B ∧ u.2.natAbs < 2 ^ B
theorem gp_of {B : Nat} {u : Int × Int} (h : Gd B (Np u)) : Gp B u := by
  obtain ⟨a, b, e, h1, h2, h3⟩ := h
  have e1 : u.1 = a ∧ u.2 = b := by
    have e' : [D.int u.1, D.int u.2] = [D.int a, D.int b] := D.tup.inj e
    simp only [List.cons.injEq, D.int.injEq, and_true] at e'
    exact e'
  exact ⟨by rw [e1.1, e1.2]; exact h1, by rw [e1.1]; exact h2, by rw [e1.2]; exact h3⟩
theorem plus_gp {B C : Nat} {u v : Int × Int} (hu : Gp B u) (hv : Gp C v) : Gp (B + C + 1) (plusP u v) := by
  have hq : u.2 * v.2 ≠ 0 := Int.mul_ne_zero (by have := hu.1.1; omega) (by have := hv.1.1; omega)
  have h1 := mul_step hu.2.1 hv.2.2
  have h2 := mul_step hv.2.1 hu.2.2
  rw [Nat.add_comm C B] at h2
  have h3 := mul_step hu.2.2 hv.2.2
  have e : 2 ^ (B + C + 1) = 2 ^ (B + C) + 2 ^ (B + C) := by rw [Nat.pow_succ]; omega
  have s : (u.1 * v.2 + v.1 * u.2).natAbs ≤ (u.1 * v.2).natAbs + (v.1 * u.2).natAbs := Int.natAbs_add_le _ _
  exact gp_of (nm_gd hq (by omega) (by omega))
theorem plus_runs {B C : Nat} {u v : Int × Int} (hu : Gp B u) (hv : Gp C v) (h0 : 0 < B) (h1 : 0 < C) (hs : B + C ≤ 7000) : mOk u.1 v.2 ∧ mOk v.1 u.2 ∧ mOk u.2 v.2 ∧ u.2 * v.2 ≠ 0 ∧ (u.2 * v.2).natAbs.log2 < 9000 :=
  ⟨mOk_of hu.2.1 hv.2.2 h0 h1 (by omega), mOk_of hv.2.1 hu.2.2 h1 h0 (by omega), mOk_of hu.2.2 hv.2.2 h0 h1 (by omega), Int.mul_ne_zero (by have := hu.1.1; omega) (by have := hv.1.1; omega), log_lt (mul_step hu.2.2 hv.2.2) (by omega) (by omega)⟩
theorem total_loop {B : Nat} (h0 : 0 < B) (d : Sl) : ∀ (L : List (Int × Int)) (f : Int × Int) (x : Sl) (K : Nat), (∀ u ∈ L, Gp B u) → 0 < K → Gp K f → K + (B + 1) * L.length ≤ 6900 →
    ∃ y, sFor (putN [] 2) (sSet [] 1 (eCallP (aCons (eBin fAdd (eBin fMul (eIxV 1 (eC (.int 0))) (eIxV 2 (eC (.int 1)))) (eBin fMul (eIxV 2 (eC (.int 0))) (eIxV 1 (eC (.int 1))))) (aCons (eBin fMul (eIxV 1 (eC (.int 1))) (eIxV 2 (eC (.int 1)))) aNil)) id f_number)) (L.map Np) [d, .pu (Np f), x] = .nx [d, .pu (Np (L.foldl plusP f)), y]
  | [], f, x, _, _, _, _, _ => ⟨x, rfl⟩
  | u :: L, f, x, K, hL, hK, hf, hs => by
    rw [List.length_cons, Nat.mul_succ] at hs
    have hu := hL u List.mem_cons_self
    have hp : Gp (K + (B + 1)) (plusP f u) := plus_gp hf hu
    obtain ⟨y, hy⟩ := total_loop h0 d L (plusP f u) (.pu (Np u)) (K + (B + 1)) (fun v hv => hL v (List.mem_cons_of_mem _ hv)) (by omega) hp (by omega)
    refine ⟨y, ?_⟩
    obtain ⟨m1, m2, m3, hq, hl⟩ := plus_runs hf hu hK h0 (by omega)
    apply sFor_cons (st1 := [d, .pu (Np f), .pu (Np u)]) (s := [d, .pu (Np (plusP f u)), .pu (Np u)])
    · exact rfl
    · apply sSet_r
      · apply eCallP_r
        · walk_at "ev"
        · exact run_num hq hl
      · walk_at "ev"
    · exact hy
/-- a row: a list or a tuple of numbers -/
def Row (d : D) (L : List (Int × Int)) : Prop := d = .lst (L.map Np) ∨ d = .tup (L.map Np)
theorem row_iter {d : D} {L : List (Int × Int)} (h : Row d L) {i : Nat} {st : List Sl} (hi : st[i]? = some (.pu d)) : iSeq (eVar i) st = .ok (L.map Np) st := by
  rcases h with rfl | rfl
  · exact iSeq_l (eVar_r hi)
  · exact iSeq_t (eVar_r hi)
theorem run_checkR {d : D} {L : List (Int × Int)} (h : Row d L) (hn : ∀ u ∈ L, Nb u.1 u.2) : f__check_all [.pu d] = .ok (.non, false) [.pu d] := by
  obtain ⟨y, hy⟩ := run_checkL L (.pu d) .un hn
  apply def_nx (st := [.pu d]) rfl rfl
  · unfold r__check_all
    apply sForI_r
    · exact row_iter h rfl
    · exact hy
  · exact rfl
theorem zero_gp : Gp 1 (0, 1) := ⟨⟨by decide, by decide⟩, by decide, by decide⟩
theorem run_total {d : D} {L : List (Int × Int)} (h : Row d L) {B : Nat} (h0 : 0 < B) (hL : ∀ u ∈ L, Gp B u) (hs : 1 + (B + 1) * L.length ≤ 6900) : f_total [.pu d] = .ok (Np (L.foldl plusP (0, 1)), false) [.pu d] := by
  obtain ⟨y, hy⟩ := total_loop h0 (.pu d) L (0, 1) .un 1 hL (by decide) zero_gp hs
  apply def_rt (st := [.pu d]) rfl rfl
  · unfold r_total
    apply sSeq_r
    · apply sDrop_r
      apply eCallP_r (ds := [d])
      · walk_at "ev"
      · exact run_checkR h fun u hu => (hL u hu).1
    · apply sSeq_r (st1 := [.pu d, .pu (Np (0, 1)), .un])
      · exact rfl
      · apply sSeq_r
        · apply sForI_r
          · exact row_iter h rfl
          · exact hy
        · exact rfl
  · exact rfl
end G
end

end

section
set_option Elab.async false
set_option linter.all false
set_option maxRecDepth 100000
set_option maxHeartbeats 2000000
set_option exponentiation.threshold 10000
noncomputable section
namespace G
open PySem L2 TX
theorem eAll_r {b : Bool} {vs : List Nat} {it : EvI} {put : D → List Sl → SO} {t : EvT} {e : EvE} {st st1 st2 st3 : List Sl} {ds : List D} {c : Bool} (h : it st = .ok ds st1) (hn : noOwn st1 vs = true ∧ ds.length ≤ 100000) (hc : aLoop vs put t e b ds st1 = .ok c st2) (hl : st2.length = st1.length) (ho : backS st1 st2 vs = st3) :
    eAll b vs it put t e st = .ok (.bl c, false) st3 := by
  subst ho
  unfold eAll; rw [h]; show (if noOwn st1 vs = true ∧ ds.length ≤ 100000 then _ else O.no) = _; rw [if_pos hn]
  show (match aLoop vs put t e b ds st1 with | .ok c st2 => if st2.length = st1.length then O.ok (D.bl c, false) (backS st1 st2 vs) else .no | _ => .no) = _
  rw [hc]; show (if st2.length = st1.length then O.ok (D.bl c, false) (backS st1 st2 vs) else .no) = _; rw [if_pos hl]
theorem all_loop {e : EvE} {f : D → Bool} {d : D} : ∀ (ds : List D) (x : Sl), (∀ a ∈ ds, e [.pu d, .pu a] = .ok (.bl (f a), false) [.pu d, .pu a]) → ∃ y, aLoop [1] (putN [] 1) tTrue e true ds [.pu d, x] = .ok (ds.all f) [.pu d, y]
  | [], x, _ => ⟨x, rfl⟩
  | a :: ds, x, h => by
    have ha := h a List.mem_cons_self
    obtain ⟨y, hy⟩ := all_loop ds (.pu a) fun c hc => h c (List.mem_cons_of_mem _ hc)
    have e1 : aLoop [1] (putN [] 1) tTrue e true (a :: ds) [.pu d, x] = (match e [.pu d, .pu a] with
        | .ok z st3 => (match z.1 with
          | .bl c => if noOwn st3 [1] = true then (if c = true then aLoop [1] (putN [] 1) tTrue e true ds st3 else .ok c st3) else .no
          | _ => .no)
        | _ => .no) := rfl
    rw [e1, ha]
    rw [List.all_cons]
    cases hf : f a with
    | true => exact ⟨y, hy⟩
    | false => exact ⟨.pu a, rfl⟩
/-! ### what a scheme is -/
def okC (u : Int × Int) : Bool := decide (Nb u.1 u.2) && decide (0 ≤ u.1)
def sumP (r : List (Int × Int)) : Int × Int := r.foldl plusP (0, 1)
def okR (r : List (Int × Int)) : Bool := r.all okC && decide (sumP r = (1, 1))
def RowD (r : List (Int × Int)) : D := .tup (r.map Np)
def PlanD (p : List (List (Int × Int))) : D := .tup (p.map RowD)
def judge (p : List (List (Int × Int))) : Bool := p.all okR && (decide (0 < p.length) && p.all fun r => decide (r.length = (p.headD []).length))
end G
end

end

section
set_option Elab.async false
set_option linter.all false
set_option maxRecDepth 100000
set_option maxHeartbeats 2000000
set_option exponentiation.threshold 10000
noncomputable section
namespace G
open PySem L2 TX
theorem run_is_chance (u : Int × Int) : f_is_chance [.pu (Np u)] = .ok (.bl (okC u), false) [.pu (Np u)] := by
  apply def_rt (st := [.pu (Np u)]) rfl rfl
  · unfold r_is_chance
    apply sRet_r
    apply eAnd_r (c := decide (Nb u.1 u.2))
    · apply eCallP_r (ds := [Np u])
      · exact aCons_r (eVar_r rfl) aNil_r rfl
      · exact run_isnum u.1 u.2
    · rfl
    · by_cases h : Nb u.1 u.2
      · rw [if_pos (decide_eq_true h)]
        have e : okC u = decide (u.1 ≥ 0) := by unfold okC; rw [decide_eq_true h]; rfl
        rw [e]
        apply eBin_r
        · apply eIxV_r (d0 := Np u) rfl eC_r rfl
          exact rfl
        · exact eC_r
        · exact rfl
      · rw [if_neg (by simp [h])]
        have e : okC u = false := by unfold okC; rw [decide_eq_false h]; rfl
        rw [e]
  · exact rfl
theorem nb_of {u : Int × Int} (h : okC u = true) : Nb u.1 u.2 := by
  unfold okC at h
  exact of_decide_eq_true (Bool.and_eq_true_iff.mp h).1
/-- entries of fewer than B bits -/
def Sm (B : Nat) (r : List (Int × Int)) : Prop := ∀ u ∈ r, u.1.natAbs < 2 ^ B ∧ u.2.natAbs < 2 ^ B
theorem is_row_all (r : List (Int × Int)) (hl : r.length ≤ 100) : eAll true [1] (iSeq (eVar 0)) (putN [] 1) tTrue (eCallP (aCons (eVar 1) aNil) id f_is_chance) [.pu (RowD r), .un] = .ok (.bl (r.all okC), false) [.pu (RowD r), .un] := by
  have f : ∀ a ∈ r.map Np, eCallP (aCons (eVar 1) aNil) id f_is_chance [.pu (RowD r), .pu a] = .ok (.bl ((fun d : D => match d with | .tup [.int x, .int y] => okC (x, y) | _ => false) a), false) [.pu (RowD r), .pu a] := fun a ha => by
    obtain ⟨u, _, rfl⟩ := List.mem_map.mp ha
    apply eCallP_r (ds := [Np u])
    · exact aCons_r (eVar_r rfl) aNil_r rfl
    · exact run_is_chance u
  obtain ⟨y, hy⟩ := all_loop (r.map Np) .un f
  have e : (r.map Np).all (fun d : D => match d with | .tup [.int x, .int y] => okC (x, y) | _ => false) = r.all okC := by rw [List.all_map]; rfl
  rw [e] at hy
  apply eAll_r (iSeq_t (eVar_r rfl)) ⟨rfl, by rw [List.length_map]; omega⟩ hy rfl
  exact rfl
theorem run_is_row {r : List (Int × Int)} (hl : r.length ≤ 100) (hs : Sm 60 r) : f_is_row [.pu (RowD r)] = .ok (.bl (okR r), false) [.pu (RowD r)] := by
  apply def_rt (st := [.pu (RowD r)]) (s' := [.pu (RowD r), .un]) rfl rfl
  · unfold r_is_row
    cases h : r.all okC with
    | false =>
      have e : okR r = false := by unfold okR; rw [h]; rfl
      rw [e]
      apply sSeq_rt
      apply sIf_r (c := true)
      · apply tOr_r (c := false)
        · apply tNot_r (c := true)
          apply tOf_r
          · exact eV1_r rfl rfl
          · exact rfl
        · rw [if_neg (by decide)]
          apply tNot_r (c := false)
          apply tOf_r
          · exact is_row_all r hl
          · exact congrArg D.bl h
      · rw [if_pos rfl]
        exact sRet_r eC_r
    | true =>
      have e : okR r = decide (sumP r = (1, 1)) := by unfold okR; rw [h]; rfl
      rw [e]
      apply sSeq_r (st1 := [.pu (RowD r), .un])
      · apply sIf_r (c := false)
        · apply tOr_r (c := false)
          · apply tNot_r (c := true)
            apply tOf_r
            · exact eV1_r rfl rfl
            · exact rfl
          · rw [if_neg (by decide)]
            apply tNot_r (c := true)
            apply tOf_r
            · exact is_row_all r hl
            · exact congrArg D.bl h
        · exact rfl
      · apply sRet_r
        have gp : ∀ u ∈ r, Gp 60 u := fun u hu => ⟨nb_of (List.all_eq_true.mp h u hu), hs u hu⟩
        apply eBin_r (x := (Np (sumP r), false)) (y := (d_ONE, false))
        · apply eCallP_r (ds := [RowD r])
          · exact aCons_r (eVar_r rfl) aNil_r rfl
          · exact run_total (.inr rfl) (by decide) gp (by omega)
        · exact eC_r
        · show fEq true (N (sumP r).1 (sumP r).2) (N 1 1) = _
          generalize sumP r = s
          obtain ⟨a, b⟩ := s
          have h1 : (SeqAt.shaped (N a b).toP && SeqAt.shaped (N 1 1).toP) = true := by
            show (SeqAt.shaped (.tuple [.int a, .int b]) && SeqAt.shaped (.tuple [.int 1, .int 1])) = true
            simp [SeqAt.shaped, PyData.canLay0, PyData.canLayAll0, PyData.depth, PyData.depthAll]
          have h2 : PyData.eqv (N a b).toP (N 1 1).toP = decide ((a, b) = ((1 : Int), (1 : Int))) := by
            show PyData.eqv (.tuple [.int a, .int b]) (.tuple [.int 1, .int 1]) = _
            by_cases ha : a = 1 <;> by_cases hb : b = 1 <;> simp [PyData.eqv, PyData.eqvAll, ha, hb]
          show (if (SeqAt.shaped (N a b).toP && SeqAt.shaped (N 1 1).toP) = true then some (D.bl (PyData.eqv (N a b).toP (N 1 1).toP == true), false) else none) = _
          rw [if_pos h1, h2]
          cases decide ((a, b) = ((1 : Int), (1 : Int))) <;> rfl
  · exact rfl
end G
end

end

section
set_option Elab.async false
set_option linter.all false
set_option maxRecDepth 100000
set_option maxHeartbeats 2000000
set_option exponentiation.threshold 10000
noncomputable section
namespace G
open PySem L2 TX
/-- plans that the law makes, in their sizes -/
structure Sp (p : List (List (Int × Int))) : Prop where
  len : p.length ≤ 100
  row : ∀ r ∈ p, r.length ≤ 100 ∧ Sm 60 r
theorem scheme_all {p : List (List (Int × Int))} (h : Sp p) : eAll true [1] (iSeq (eVar 0)) (putN [] 1) tTrue (eCallP (aCons (eVar 1) aNil) id f_is_row) [.pu (PlanD p), .un] = .ok (.bl (p.all okR), false) [.pu (PlanD p), .un] := by
  have key : ∀ (q : List (List (Int × Int))) (x : Sl), (∀ r ∈ q, r ∈ p) → ∃ y, aLoop [1] (putN [] 1) tTrue (eCallP (aCons (eVar 1) aNil) id f_is_row) true (q.map RowD) [.pu (PlanD p), x] = .ok (q.all okR) [.pu (PlanD p), y] := by
    intro q
    induction q with
    | nil => intro x _; exact ⟨x, rfl⟩
    | cons r q ih =>
      intro x hq
      obtain ⟨y, hy⟩ := ih (.pu (RowD r)) fun a ha => hq a (List.mem_cons_of_mem _ ha)
      have hr := h.row r (hq r List.mem_cons_self)
      have ha : eCallP (aCons (eVar 1) aNil) id f_is_row [.pu (PlanD p), .pu (RowD r)] = .ok (.bl (okR r), false) [.pu (PlanD p), .pu (RowD r)] := by
        apply eCallP_r (ds := [RowD r])
        · exact aCons_r (eVar_r rfl) aNil_r rfl
        · exact run_is_row hr.1 hr.2
      have e1 : aLoop [1] (putN [] 1) tTrue (eCallP (aCons (eVar 1) aNil) id f_is_row) true ((r :: q).map RowD) [.pu (PlanD p), x] = (match eCallP (aCons (eVar 1) aNil) id f_is_row [.pu (PlanD p), .pu (RowD r)] with
          | .ok z st3 => (match z.1 with
            | .bl c => if noOwn st3 [1] = true then (if c = true then aLoop [1] (putN [] 1) tTrue (eCallP (aCons (eVar 1) aNil) id f_is_row) true (q.map RowD) st3 else .ok c st3) else .no
            | _ => .no)
          | _ => .no) := rfl
      rw [e1, ha, List.all_cons]
      cases hf : okR r with
      | true => exact ⟨y, hy⟩
      | false => exact ⟨.pu (RowD r), rfl⟩
  obtain ⟨y, hy⟩ := key p .un fun r hr => hr
  apply eAll_r (iSeq_t (eVar_r rfl)) ⟨rfl, by rw [List.length_map]; have := h.len; omega⟩ hy rfl
  exact rfl
theorem scheme_len {r0 : List (Int × Int)} {p : List (List (Int × Int))} (h : Sp (r0 :: p)) : eAll true [1] (iSeq (eVar 0)) (putN [] 1) tTrue (eBin (fEq true) (eV1 fLen 1) (eUn fLen (eIxV 0 (eC (.int 0))))) [.pu (PlanD (r0 :: p)), .un] = .ok (.bl ((r0 :: p).all fun r => decide (r.length = r0.length)), false) [.pu (PlanD (r0 :: p)), .un] := by
  have key : ∀ (q : List (List (Int × Int))) (x : Sl), ∃ y, aLoop [1] (putN [] 1) tTrue (eBin (fEq true) (eV1 fLen 1) (eUn fLen (eIxV 0 (eC (.int 0))))) true (q.map RowD) [.pu (PlanD (r0 :: p)), x] = .ok (q.all fun r => decide (r.length = r0.length)) [.pu (PlanD (r0 :: p)), y] := by
    intro q
    induction q with
    | nil => intro x; exact ⟨x, rfl⟩
    | cons r q ih =>
      intro x
      obtain ⟨y, hy⟩ := ih (.pu (RowD r))
      have ha : eBin (fEq true) (eV1 fLen 1) (eUn fLen (eIxV 0 (eC (.int 0)))) [.pu (PlanD (r0 :: p)), .pu (RowD r)] = .ok (.bl (decide (r.length = r0.length)), false) [.pu (PlanD (r0 :: p)), .pu (RowD r)] := by
        apply eBin_r (x := (.int (r.length : Int), false)) (y := (.int (r0.length : Int), false))
        · apply eV1_r rfl
          show some (D.int ((r.map Np).length : Int), false) = _
          rw [List.length_map]
        · apply eUn_r (x := (RowD r0, false))
          · apply eIxV_r (d0 := PlanD (r0 :: p)) rfl eC_r rfl
            exact fIx_tup (atI_nat (k := 0) (by simp))
          · show some (D.int ((r0.map Np).length : Int), false) = _
            rw [List.length_map]
        · show fEq true (.int (r.length : Int)) (.int (r0.length : Int)) = _
          rw [fEqI_r]
          have : decide ((r.length : Int) = (r0.length : Int)) = decide (r.length = r0.length) := decide_eq_decide.mpr (by omega)
          rw [this]
      have e1 : aLoop [1] (putN [] 1) tTrue (eBin (fEq true) (eV1 fLen 1) (eUn fLen (eIxV 0 (eC (.int 0))))) true ((r :: q).map RowD) [.pu (PlanD (r0 :: p)), x] = (match eBin (fEq true) (eV1 fLen 1) (eUn fLen (eIxV 0 (eC (.int 0)))) [.pu (PlanD (r0 :: p)), .pu (RowD r)] with
          | .ok z st3 => (match z.1 with
            | .bl c => if noOwn st3 [1] = true then (if c = true then aLoop [1] (putN [] 1) tTrue (eBin (fEq true) (eV1 fLen 1) (eUn fLen (eIxV 0 (eC (.int 0))))) true (q.map RowD) st3 else .ok c st3) else .no
            | _ => .no)
          | _ => .no) := rfl
      rw [e1, ha, List.all_cons]
      cases hf : decide (r.length = r0.length) with
      | true => exact ⟨y, hy⟩
      | false => exact ⟨.pu (RowD r), rfl⟩
  obtain ⟨y, hy⟩ := key (r0 :: p) .un
  apply eAll_r (iSeq_t (eVar_r rfl)) ⟨rfl, by rw [List.length_map]; have := h.len; omega⟩ hy rfl
  exact rfl
theorem run_is_scheme {p : List (List (Int × Int))} (h : Sp p) : f_is_scheme [.pu (PlanD p)] = .ok (.bl (judge p), false) [.pu (PlanD p)] := by
  have first (c : Bool) (hc : p.all okR = c) : tOr' (tNot' (tOf (eV1 (fIsi [.tuple]) 0))) (tNot' (tOf (eAll true [1] (iSeq (eVar 0)) (putN [] 1) tTrue (eCallP (aCons (eVar 1) aNil) id f_is_row)))) [.pu (PlanD p), .un] = .ok (!c) [.pu (PlanD p), .un] := by
    apply tOr_r (c := false)
    · apply tNot_r (c := true)
      apply tOf_r
      · exact eV1_r rfl rfl
      · exact rfl
    · rw [if_neg (by decide)]
      apply tNot_r (c := c)
      apply tOf_r
      · exact scheme_all h
      · exact congrArg D.bl hc
  apply def_rt (st := [.pu (PlanD p)]) (s' := [.pu (PlanD p), .un]) rfl rfl
  · unfold r_is_scheme
    cases hc : p.all okR with
    | false =>
      have e : judge p = false := by unfold judge; rw [hc]; rfl
      rw [e]
      apply sSeq_rt
      apply sIf_r (first _ hc)
      rw [if_pos (by decide)]
      exact sRet_r eC_r
    | true =>
      apply sSeq_r (st1 := [.pu (PlanD p), .un])
      · apply sIf_r (first _ hc)
        exact rfl
      · apply sRet_r
        have e : judge p = (decide (0 < p.length) && p.all fun r => decide (r.length = (p.headD []).length)) := by unfold judge; rw [hc]; rfl
        rw [e]
        apply eAnd_r (c := decide (0 < p.length))
        · apply eBin_r (x := (.int (p.length : Int), false)) (y := (.int 0, false))
          · apply eV1_r rfl
            show some (D.int ((p.map RowD).length : Int), false) = _
            rw [List.length_map]
          · exact eC_r
          · show some (D.bl (decide ((p.length : Int) > 0)), false) = _
            have : decide ((p.length : Int) > 0) = decide (0 < p.length) := decide_eq_decide.mpr (by omega)
            rw [this]
        · rfl
        · cases p with
          | nil => rfl
          | cons r0 p =>
            rw [if_pos (by simp)]
            have e2 : (decide (0 < (r0 :: p).length) && (r0 :: p).all fun r => decide (r.length = ((r0 :: p).headD []).length)) = (r0 :: p).all fun r => decide (r.length = r0.length) := by
              rw [decide_eq_true (by simp), Bool.true_and]
              rfl
            rw [e2]
            exact scheme_len h
  · exact rfl
end G
end

end

section
set_option Elab.async false
set_option linter.all false
set_option maxRecDepth 100000
set_option maxHeartbeats 2000000
set_option exponentiation.threshold 10000
noncomputable section
namespace G
open PySem L2 TX
theorem sFor_rt {put : D → List Sl → SO} {body : EvS} {d : D} {r : List D} {st st1 s : List Sl} {z : R1} (h : put d st = .nx st1) (hb : body st1 = .rt z s) : sFor put body (d :: r) st = .rt z s := by
  unfold sFor; rw [h]; show (match body st1 with | .nx s => sFor put body r s | .ct s => sFor put body r s | .bk s => SO.nx s | o => o) = _; rw [hb]
theorem sForI_rt {put : D → List Sl → SO} {it : EvI} {body : EvS} {st st1 s : List Sl} {ds : List D} {z : R1} (h : it st = .ok ds st1) (h2 : sFor put body ds st1 = .rt z s) : sForI put it body st = .rt z s := sForI_r h h2
theorem okC_gp {u : Int × Int} {B : Nat} (h : okC u = true) (hs : u.1.natAbs < 2 ^ B ∧ u.2.natAbs < 2 ^ B) : Gp B u := ⟨nb_of h, hs⟩
end G
end

end

section
set_option Elab.async false
set_option linter.all false
set_option maxRecDepth 100000
set_option maxHeartbeats 2000000
set_option exponentiation.threshold 10000
noncomputable section
namespace G
open PySem L2 TX
theorem nmP_spec {p q : Int} (h : q ≠ 0) : Nb (nmP p q).1 (nmP p q).2 ∧ p * (nmP p q).2 = (nmP p q).1 * q := by
  obtain ⟨g, a, b, hg, hn, e, hs⟩ := nm_eq (p := p) h
  have e' : N (nmP p q).1 (nmP p q).2 = N a b := e
  have e1 : (nmP p q).1 = a := by injection e' with e'; injection e' with e1 e2; injection e1
  have e2 : (nmP p q).2 = b := by injection e' with e'; injection e' with e1 e2; injection e2 with e2; injection e2
  rw [e1, e2]
  refine ⟨hn, ?_⟩
  rcases hs with ⟨h1, h2⟩ | ⟨h1, h2⟩
  · rw [h1, h2]; grind
  · rw [h1, h2]; grind
theorem nb_uniq {a b c d : Int} (h1 : Nb a b) (h2 : Nb c d) (h : a * d = c * b) : a = c ∧ b = d := by
  have hn : a.natAbs * d.natAbs = c.natAbs * b.natAbs := by rw [← Int.natAbs_mul, ← Int.natAbs_mul, h]
  have d1 : b.natAbs ∣ d.natAbs := by
    have : b.natAbs ∣ a.natAbs * d.natAbs := ⟨c.natAbs, by rw [hn, Nat.mul_comm]⟩
    exact (Nat.Coprime.dvd_of_dvd_mul_left (Nat.Coprime.symm h1.2) this)
  have d2 : d.natAbs ∣ b.natAbs := by
    have : d.natAbs ∣ c.natAbs * b.natAbs := ⟨a.natAbs, by rw [← hn, Nat.mul_comm]⟩
    exact (Nat.Coprime.dvd_of_dvd_mul_left (Nat.Coprime.symm h2.2) this)
  have e : b.natAbs = d.natAbs := Nat.dvd_antisymm d1 d2
  have hb := h1.1
  have hd := h2.1
  have ebd : b = d := by omega
  subst ebd
  exact ⟨Int.eq_of_mul_eq_mul_right (by omega) h, rfl⟩
theorem eq_of_cross {p q : Int} {u : Int × Int} (h : q ≠ 0) (hu : Nb u.1 u.2) (hc : p * u.2 = u.1 * q) : nmP p q = u := by
  obtain ⟨hn, hs⟩ := nmP_spec (p := p) h
  have : (nmP p q).1 * u.2 * q = u.1 * (nmP p q).2 * q := by grind
  obtain ⟨e1, e2⟩ := nb_uniq hn hu (Int.eq_of_mul_eq_mul_right h this)
  exact Prod.ext e1 e2
theorem nb_ne {a b : Int} (h : Nb a b) : b ≠ 0 := by have := h.1; omega
theorem plus_share {s w W : Int} (hW : W ≠ 0) : plusP (nmP s W) (nmP w W) = nmP (s + w) W := by
  obtain ⟨n1, h1⟩ := nmP_spec (p := s) hW
  obtain ⟨n2, h2⟩ := nmP_spec (p := w) hW
  obtain ⟨n3, h3⟩ := nmP_spec (p := s + w) hW
  unfold plusP
  apply eq_of_cross (Int.mul_ne_zero (nb_ne n1) (nb_ne n2)) n3
  apply Int.eq_of_mul_eq_mul_right hW
  grind
theorem nmP_zero {W : Int} (hW : W ≠ 0) : nmP 0 W = (0, 1) := eq_of_cross hW ⟨by decide, by decide⟩ (by simp)
theorem nmP_one {W : Int} (hW : W ≠ 0) : nmP W W = (1, 1) := eq_of_cross hW ⟨by decide, by decide⟩ (by simp)
theorem sum_shares {W : Int} (hW : W ≠ 0) : ∀ (L : List Int) (s : Int), (L.map fun w => nmP w W).foldl plusP (nmP s W) = nmP (s + L.sum) W
  | [], s => by simp
  | w :: L, s => by
    rw [List.map_cons, List.foldl_cons, plus_share hW, sum_shares hW L, List.sum_cons, Int.add_assoc]
theorem sumP_shares {L : List Int} (hW : L.sum ≠ 0) : sumP (L.map fun w => nmP w L.sum) = (1, 1) := by
  unfold sumP
  rw [← nmP_zero hW, sum_shares hW, Int.zero_add, nmP_one hW]
theorem nmP_pos {w W : Int} (hw : 0 ≤ w) (hW : 0 < W) : 0 ≤ (nmP w W).1 := by
  obtain ⟨n1, h1⟩ := nmP_spec (p := w) (q := W) (by omega)
  have h2 : 0 ≤ w * (nmP w W).2 := Int.mul_nonneg hw (Int.le_of_lt n1.1)
  rw [h1] at h2
  exact Int.nonneg_of_mul_nonneg_left h2 hW
theorem okC_share {w W : Int} (hw : 0 ≤ w) (hW : 0 < W) : okC (nmP w W) = true := by
  unfold okC
  rw [decide_eq_true (nmP_spec (p := w) (q := W) (by omega)).1, decide_eq_true (nmP_pos hw hW)]
  rfl
theorem okR_shares {L : List Int} (hL : ∀ w ∈ L, 0 ≤ w) (hW : 0 < L.sum) : okR (L.map fun w => nmP w L.sum) = true := by
  unfold okR
  rw [sumP_shares (by omega)]
  have : (L.map fun w => nmP w L.sum).all okC = true := by
    rw [List.all_map]
    exact List.all_eq_true.mpr fun w hw => okC_share (hL w hw) hW
  rw [this]
  rfl
theorem gp_nmP {B : Nat} {p q : Int} (h : q ≠ 0) (hp : p.natAbs < 2 ^ B) (hq : q.natAbs < 2 ^ B) : Gp B (nmP p q) := gp_of (nm_gd h hp hq)
theorem sum_le {m : Int} : ∀ (L : List Int), (∀ w ∈ L, 0 ≤ w ∧ w ≤ m) → 0 ≤ L.sum ∧ L.sum ≤ m * L.length
  | [], _ => ⟨by simp, by simp⟩
  | w :: L, h => by
    obtain ⟨h1, h2⟩ := sum_le L fun a ha => h a (List.mem_cons_of_mem _ ha)
    have h3 := h w List.mem_cons_self
    rw [List.sum_cons, List.length_cons]
    refine ⟨by omega, ?_⟩
    have : m * ((L.length + 1 : Nat) : Int) = m * L.length + m := by rw [Int.natCast_add, Int.mul_add]; simp
    omega
theorem sum_pos {w : Int} : ∀ {L : List Int}, (∀ a ∈ L, 0 ≤ a) → w ∈ L → w ≤ L.sum
  | [], _, h => by cases h
  | a :: L, h0, h => by
    have h1 : 0 ≤ L.sum := by
      have : ∀ K : List Int, (∀ a ∈ K, 0 ≤ a) → 0 ≤ K.sum := by
        intro K
        induction K with
        | nil => intro _; simp
        | cons b K ih => intro hK; rw [List.sum_cons]; have := hK b List.mem_cons_self; have := ih fun c hc => hK c (List.mem_cons_of_mem _ hc); omega
      exact this L fun c hc => h0 c (List.mem_cons_of_mem _ hc)
    rw [List.sum_cons]
    rcases List.mem_cons.mp h with rfl | h
    · omega
    · have := sum_pos (fun c hc => h0 c (List.mem_cons_of_mem _ hc)) h
      have := h0 a List.mem_cons_self
      omega
theorem ints_map (L : List Int) : D.ints? (L.map .int) = some L := by
  induction L with
  | nil => rfl
  | cons a L ih => show (D.ints? (L.map .int)).map (a :: ·) = _; rw [ih]; rfl
theorem ixN_of {n : Nat} {r : Int} (h0 : 0 ≤ r) (h1 : r < n) : ixN n r = some r.toNat := by
  unfold ixN; simp [h0, h1]
end G
end

end

section
set_option Elab.async false
set_option linter.all false
set_option maxRecDepth 100000
set_option maxHeartbeats 2000000
set_option exponentiation.threshold 10000
noncomputable section
namespace G
open PySem L2 TX
theorem take_r {st st1 : List Sl} {i : Nat} {l l1 : List D} {e : EvE} {m : Int} {c : Bool} (h0 : st[i]? = some (.ow l)) (he : e st = .ok (.int m, c) st1) (h1 : st1[i]? = some (.ow l1)) (hd : Dk l1) (hm : 0 < m) (hs : m < 2 ^ 60) :
    ∃ (r : Int) (l' : List D), eCallA (.io i :: .v e :: []) f__law_take st = .ok (.int r, false) (st1.set i (.ow l')) ∧ 0 ≤ r ∧ r < m ∧ Dk l' := by
  obtain ⟨r, l', hr, h2, h3, h4⟩ := run_take hd m hm (log_lt (B := 60) (by omega) (by decide) (by decide))
  exact ⟨r, l', eCallA_iov h0 he h1 hr, h2, h3, h4⟩
theorem share_loop {d W : Int} {s0 s1 : Sl} (h1 : s1 = .pu (.int W)) (hW : W ≠ 0) (hs : W.natAbs < 2 ^ 60) : ∀ (L : List Int) (x : Sl), (∀ ds, x ≠ .ow ds) → ∃ y, cLoop [2] (putN [] 2) tTrue (eCallP (aCons (eVar 2) (aCons (eVar 1) (aNil))) id f__law_pair) (L.map .int) [s0, s1, x] = .ok (L.map fun w => Np (nmP w W)) [s0, s1, y]
  | [], x, _ => ⟨x, rfl⟩
  | w :: L, x, hx => by
    subst h1
    obtain ⟨y, hy⟩ := share_loop (d := d) (s0 := s0) rfl hW hs L (.pu (.int w)) (fun _ z => by cases z)
    refine ⟨y, ?_⟩
    apply cLoop_t (st1 := [s0, .pu (.int W), .pu (.int w)]) (st2 := [s0, .pu (.int W), .pu (.int w)]) (st3 := [s0, .pu (.int W), .pu (.int w)]) (z := (Np (nmP w W), false))
    · exact rfl
    · exact rfl
    · apply eCallP_r (ds := [.int w, .int W])
      · refine aCons_r (d := .int w) (eVar_r rfl) ?_ rfl
        exact aCons_r (d := .int W) (eVar_r rfl) aNil_r rfl
      · exact run_pair hW (log_lt hs (by decide) (by decide))
    · exact rfl
    · exact hy
theorem run_shares {L : List Int} (hl : L.length ≤ 100) (hW : L.sum ≠ 0) (hs : L.sum.natAbs < 2 ^ 60) : f__law_shares [.pu (.lst (L.map .int))] = .ok (RowD (L.map fun w => nmP w L.sum), false) [.pu (.lst (L.map .int))] := by
  obtain ⟨y, hy⟩ := share_loop (d := 0) (s0 := .pu (.lst (L.map .int))) rfl hW hs L .un (fun _ z => by cases z)
  apply def_rt (st := [.pu (.lst (L.map .int))]) (s' := [.pu (.lst (L.map .int)), .pu (.int L.sum), .un]) rfl rfl
  · unfold r__law_shares
    apply sSeq_r (st1 := [.pu (.lst (L.map .int)), .pu (.int L.sum), .un])
    · apply sSet_r (x := (.int L.sum, false)) (st1 := [.pu (.lst (L.map .int)), .un, .un])
      · apply eV1_r rfl
        show (D.ints? (L.map .int)).map (fun ns => (D.int ns.sum, false)) = _
        rw [ints_map]; rfl
      · apply putS_r
        · simp
        · exact rfl
    · apply sRet_r
      apply eUn_r (x := (.lst (L.map fun w => Np (nmP w L.sum)), true))
      · apply eLc_r (iSeq_l (eVar_r rfl)) ⟨rfl, by rw [List.length_map]; omega⟩ hy rfl
        exact rfl
      · show some (D.tup (L.map fun w => Np (nmP w L.sum)), false) = _
        unfold RowD
        rw [List.map_map]
        rfl
  · exact rfl
/-- weights -/
structure Ws (n : Nat) (L : List Int) : Prop where
  len : L.length = n
  rng : ∀ w ∈ L, 0 ≤ w ∧ w ≤ 1000001
theorem Ws.set {n : Nat} {L : List Int} (h : Ws n L) {w : Int} (hw : 0 ≤ w ∧ w ≤ 1000001) (i : Nat) : Ws n (L.set i w) := ⟨by rw [List.length_set]; exact h.len, fun a ha => by
  rcases List.mem_or_eq_of_mem_set ha with h' | rfl
  · exact h.rng a h'
  · exact hw⟩
theorem map_set (L : List Int) (i : Nat) (w : Int) : (L.map D.int).set i (.int w) = (L.set i w).map .int := by rw [List.map_set]
theorem weight_loop {n m k : Int} (hm : 0 < m ∧ m ≤ 1000000) {s4 s5 : Sl} : ∀ (q : List D) (l : List D) (x : Sl), Dk l → (∀ ds, x ≠ .ow ds) → (∀ d ∈ q, ∃ i : Int, d = .int i) →
    ∃ (L : List Int) (l' : List D) (y : Sl), cLoop [6] (putN [] 6) tTrue (eBin fAdd (eCallA (.io 0 :: .v (eVar 2) :: []) f__law_take) (eUn fInt (eBin fGt (eVar 3) (eC (.int 0))))) q [.ow l, .pu (.int n), .pu (.int m), .pu (.int k), s4, s5, x] = .ok (L.map .int) [.ow l', .pu (.int n), .pu (.int m), .pu (.int k), s4, s5, y] ∧ Dk l' ∧ Ws q.length L
  | [], l, x, hl, _, _ => ⟨[], l, x, rfl, hl, rfl, fun _ h => by cases h⟩
  | a :: q, l, x, hl, hx, hq => by
    obtain ⟨i, rfl⟩ := hq a List.mem_cons_self
    obtain ⟨r, l1, hr, r1, r2, d1⟩ := take_r (st := [.ow l, .pu (.int n), .pu (.int m), .pu (.int k), s4, s5, .pu (.int i)]) (i := 0) (e := eVar 2) rfl (eVar_r rfl) rfl hl hm.1 (by omega)
    obtain ⟨L, l', y, hy, d2, hw⟩ := weight_loop (n := n) (k := k) hm (s4 := s4) (s5 := s5) q l1 (.pu (.int i)) d1 (fun _ z => by cases z) fun d hd => hq d (List.mem_cons_of_mem _ hd)
    obtain ⟨b, hb, b0⟩ : ∃ b : Int, eUn fInt (eBin fGt (eVar 3) (eC (.int 0))) [.ow l1, .pu (.int n), .pu (.int m), .pu (.int k), s4, s5, .pu (.int i)] = .ok (.int b, false) [.ow l1, .pu (.int n), .pu (.int m), .pu (.int k), s4, s5, .pu (.int i)] ∧ 0 ≤ b ∧ b ≤ 1 := by
      refine ⟨if decide (k > 0) = true then 1 else 0, ?_, ?_⟩
      · apply eUn_r (x := (.bl (decide (k > 0)), false))
        · exact eBin_r (eVar_r rfl) eC_r rfl
        · rfl
      · cases decide (k > 0) <;> decide
    refine ⟨(r + b) :: L, l', y, ?_, d2, ⟨by rw [List.length_cons, List.length_cons, hw.len], fun w hm' => ?_⟩⟩
    · apply cLoop_t (st1 := [.ow l, .pu (.int n), .pu (.int m), .pu (.int k), s4, s5, .pu (.int i)]) (st2 := [.ow l, .pu (.int n), .pu (.int m), .pu (.int k), s4, s5, .pu (.int i)]) (st3 := [.ow l1, .pu (.int n), .pu (.int m), .pu (.int k), s4, s5, .pu (.int i)]) (z := (.int (r + b), false))
      · exact rfl
      · exact rfl
      · exact eBin_r hr hb rfl
      · exact rfl
      · exact hy
    · rcases List.mem_cons.mp hm' with rfl | h
      · omega
      · exact hw.rng w h
end G
end

end

section
set_option Elab.async false
set_option linter.all false
set_option maxRecDepth 100000
set_option maxHeartbeats 2000000
set_option exponentiation.threshold 10000
noncomputable section
namespace G
open PySem L2 TX
theorem run_most {st : List Sl} {l : List D} (h0 : st[0]? = some (.ow l)) (hl : Dk l) : ∃ (m : Int) (l' : List D), eBin fIx (eLst (aCons (eC (.int 2)) (aCons (eC (.int 6)) (aCons (eC (.int 10)) (aCons (eBin fPow (eC (.int 10)) (eC (.int 6))) (aNil)))))) (eCallA (.io 0 :: .v (eC (.int 4)) :: []) f__law_take) st = .ok (.int m, false) (st.set 0 (.ow l')) ∧ (0 < m ∧ m ≤ 1000000) ∧ Dk l' := by
  obtain ⟨r, l1, hr, r1, r2, d1⟩ := take_r (i := 0) (e := eC (.int 4)) h0 eC_r h0 hl (by decide) (by decide)
  have lst : eLst (aCons (eC (.int 2)) (aCons (eC (.int 6)) (aCons (eC (.int 10)) (aCons (eBin fPow (eC (.int 10)) (eC (.int 6))) (aNil))))) st = .ok (.lst [.int 2, .int 6, .int 10, .int 1000000], true) st := by
    refine eLst_r (ds := [.int 2, .int 6, .int 10, .int 1000000]) ?_ (by simp) rfl
    refine aCons_r (d := .int 2) eC_r ?_ rfl
    refine aCons_r (d := .int 6) eC_r ?_ rfl
    refine aCons_r (d := .int 10) eC_r ?_ rfl
    refine aCons_r (d := .int 1000000) ?_ aNil_r (x := (.int 1000000, false)) rfl
    exact eBin_r eC_r eC_r (fPow_r (by decide))
  have c : r = 0 ∨ r = 1 ∨ r = 2 ∨ r = 3 := by omega
  rcases c with rfl | rfl | rfl | rfl
  · exact ⟨2, l1, eBin_r lst hr rfl, by decide, d1⟩
  · exact ⟨6, l1, eBin_r lst hr rfl, by decide, d1⟩
  · exact ⟨10, l1, eBin_r lst hr rfl, by decide, d1⟩
  · exact ⟨1000000, l1, eBin_r lst hr rfl, by decide, d1⟩
theorem run_weights {l : List D} (hl : Dk l) {n : Nat} (h0 : 0 < n) (hn : n ≤ 100) : ∃ (L : List Int) (l' : List D), f__law_weights [.ow l, .pu (.int (n : Int))] = .ok (.lst (L.map .int), true) [.ow l', .pu (.int (n : Int))] ∧ Dk l' ∧ Ws n L ∧ 0 < L.sum := by
  obtain ⟨m, l1, e1, hm, d1⟩ := run_most (st := [.ow l, .pu (.int (n : Int)), .un, .un, .un, .un, .un]) rfl hl
  obtain ⟨k, l2, e2, k1, k2, d2⟩ := take_r (st := [.ow l1, .pu (.int (n : Int)), .un, .un, .un, .un, .un]) (i := 0) (e := eC (.int 3)) rfl eC_r rfl d1 (by decide) (by decide)
  obtain ⟨L, l3, y, e3, d3, hw⟩ := weight_loop (n := (n : Int)) (k := k) hm (s4 := .un) (s5 := .un) (rngD 0 n) l2 .un d2 (fun _ z => by cases z) fun d hd => by
    unfold rngD at hd
    obtain ⟨j, _, rfl⟩ := List.mem_map.mp hd
    exact ⟨_, rfl⟩
  have hw : Ws n L := ⟨by rw [hw.len]; unfold rngD; simp, hw.rng⟩
  -- the third: some weight is 0
  obtain ⟨L4, l4, e4, d4, hw4⟩ : ∃ (L4 : List Int) (l4 : List D), sIf (tAnd' (tOf (eBinV (fEq true) 3 (eC (.int 2)))) (tOf (eBin fGt (eVar 1) (eC (.int 1))))) (sItem 4 (eCallA (.io 0 :: .v (eVar 1) :: []) f__law_take) (eC (.int 0))) (sSkip) [.ow l3, .pu (.int (n : Int)), .pu (.int m), .pu (.int k), .ow (L.map .int), .un, .un] = .nx [.ow l4, .pu (.int (n : Int)), .pu (.int m), .pu (.int k), .ow (L4.map .int), .un, .un] ∧ Dk l4 ∧ Ws n L4 := by
    have t1 : tOf (eBinV (fEq true) 3 (eC (.int 2))) [.ow l3, .pu (.int (n : Int)), .pu (.int m), .pu (.int k), .ow (L.map .int), .un, .un] = .ok (decide (k = 2)) [.ow l3, .pu (.int (n : Int)), .pu (.int m), .pu (.int k), .ow (L.map .int), .un, .un] := by
      apply tOf_r (x := (.bl (decide (k = 2)), false))
      · apply eBinV_r (d0 := .int k) rfl eC_r rfl
        exact fEqI_r
      · rfl
    have t2 : tAnd' (tOf (eBinV (fEq true) 3 (eC (.int 2)))) (tOf (eBin fGt (eVar 1) (eC (.int 1)))) [.ow l3, .pu (.int (n : Int)), .pu (.int m), .pu (.int k), .ow (L.map .int), .un, .un] = .ok (decide (k = 2) && decide ((n : Int) > 1)) [.ow l3, .pu (.int (n : Int)), .pu (.int m), .pu (.int k), .ow (L.map .int), .un, .un] := by
      apply tAnd_r t1
      cases decide (k = 2) with
      | true =>
        rw [if_pos rfl]
        exact tOf_r (eBin_r (eVar_r rfl) eC_r rfl) rfl
      | false => rfl
    cases hc : decide (k = 2) && decide ((n : Int) > 1) with
    | false =>
      refine ⟨L, l3, ?_, d3, hw⟩
      apply sIf_r (t2.trans (by rw [hc]))
      exact rfl
    | true =>
      obtain ⟨r, l4, e4, r1, r2, d4⟩ := take_r (st := [.ow l3, .pu (.int (n : Int)), .pu (.int m), .pu (.int k), .ow (L.map .int), .un, .un]) (i := 0) (e := eVar 1) rfl (eVar_r rfl) rfl d3 (by omega) (by omega)
      refine ⟨L.set r.toNat 0, l4, ?_, d4, hw.set (by decide) _⟩
      apply sIf_r (t2.trans (by rw [hc]))
      rw [if_pos rfl]
      rw [sItem_r (ds := L.map .int) (n := r) (k := r.toNat) eC_r rfl e4 rfl (ixN_of r1 (by rw [List.length_map, hw.len]; exact r2))]
      show SO.nx [.ow l4, .pu (.int (n : Int)), .pu (.int m), .pu (.int k), .ow ((L.map D.int).set r.toNat (.int 0)), .un, .un] = _
      rw [map_set]
  obtain ⟨t, l5, e5, t1, t2, d5⟩ := take_r (st := [.ow l4, .pu (.int (n : Int)), .pu (.int m), .pu (.int k), .ow (L4.map .int), .un, .un]) (i := 0) (e := eVar 1) rfl (eVar_r rfl) rfl d4 (by omega) (by omega)
  obtain ⟨L6, l6, e6, d6, hw6⟩ : ∃ (L6 : List Int) (l6 : List D), sIf (tOf (eBin (fEq true) (eV1 fSum 4) (eC (.int 0)))) (sItem 4 (eVar 5) (eBin fAdd (eC (.int 1)) (eCallA (.io 0 :: .v (eC (.int 9)) :: []) f__law_take))) (sSkip) [.ow l5, .pu (.int (n : Int)), .pu (.int m), .pu (.int k), .ow (L4.map .int), .pu (.int t), .un] = .nx [.ow l6, .pu (.int (n : Int)), .pu (.int m), .pu (.int k), .ow (L6.map .int), .pu (.int t), .un] ∧ Dk l6 ∧ Ws n L6 ∧ 0 < L6.sum := by
    have t3 : tOf (eBin (fEq true) (eV1 fSum 4) (eC (.int 0))) [.ow l5, .pu (.int (n : Int)), .pu (.int m), .pu (.int k), .ow (L4.map .int), .pu (.int t), .un] = .ok (decide (L4.sum = 0)) [.ow l5, .pu (.int (n : Int)), .pu (.int m), .pu (.int k), .ow (L4.map .int), .pu (.int t), .un] := by
      apply tOf_r (x := (.bl (decide (L4.sum = 0)), false))
      · apply eBin_r (x := (.int L4.sum, false)) (st1 := [.ow l5, .pu (.int (n : Int)), .pu (.int m), .pu (.int k), .ow (L4.map .int), .pu (.int t), .un])
        · apply eV1_r rfl
          show (D.ints? (L4.map .int)).map (fun ns => (D.int ns.sum, false)) = _
          rw [ints_map]; rfl
        · exact eC_r
        · exact fEqI_r
      · rfl
    by_cases hs : L4.sum = 0
    · obtain ⟨r, l6, e6, r1, r2, d6⟩ := take_r (st := [.ow l5, .pu (.int (n : Int)), .pu (.int m), .pu (.int k), .ow (L4.map .int), .pu (.int t), .un]) (i := 0) (e := eC (.int 9)) rfl eC_r rfl d5 (by decide) (by decide)
      have pos : 1 + r ≤ (L4.set t.toNat (1 + r)).sum := by
        apply sum_pos
        · exact fun a ha => ((hw4.set (w := 1 + r) (by omega) t.toNat).rng a ha).1
        · exact List.mem_set (by rw [hw4.len]; omega) _
      refine ⟨L4.set t.toNat (1 + r), l6, ?_, d6, hw4.set (by omega) _, by omega⟩
      apply sIf_r t3
      rw [if_pos (decide_eq_true hs)]
      rw [sItem_r (x := (.int (1 + r), false)) (ds := L4.map .int) (n := t) (k := t.toNat) (eBin_r eC_r e6 rfl) rfl (eVar_r rfl) rfl (ixN_of t1 (by rw [List.length_map, hw4.len]; exact t2))]
      show SO.nx [.ow l6, .pu (.int (n : Int)), .pu (.int m), .pu (.int k), .ow ((L4.map D.int).set t.toNat (.int (1 + r))), .pu (.int t), .un] = _
      rw [map_set]
    · refine ⟨L4, l5, ?_, d5, hw4, by have := (sum_le (m := 1000001) L4 hw4.rng).1; omega⟩
      apply sIf_r t3
      rw [if_neg (by simp [hs])]
      exact rfl
  refine ⟨L6, l6, ?_, d6, hw6⟩
  apply def_rt (st := [.ow l, .pu (.int (n : Int))]) (s' := [.ow l6, .pu (.int (n : Int)), .pu (.int m), .pu (.int k), .un, .pu (.int t), .un]) rfl rfl
  · unfold r__law_weights
    apply sSeq_r (st1 := [.ow l2, .pu (.int (n : Int)), .pu (.int m), .pu (.int k), .un, .un, .un])
    · refine sUnp_r (ds := [.int m, .int k]) (eTup_r (ds := [.int m, .int k]) (aCons_r (d := .int m) e1 (aCons_r (d := .int k) e2 aNil_r rfl) rfl) (by simp) rfl) ?_
      exact rfl
    · apply sSeq_r (st1 := [.ow l3, .pu (.int (n : Int)), .pu (.int m), .pu (.int k), .ow (L.map .int), .un, .un])
      · apply sSet_r (x := (.lst (L.map .int), true)) (st1 := [.ow l3, .pu (.int (n : Int)), .pu (.int m), .pu (.int k), .un, .un, .un])
        · refine eLc_r (st1 := [.ow l2, .pu (.int (n : Int)), .pu (.int m), .pu (.int k), .un, .un, .un]) (st2 := [.ow l3, .pu (.int (n : Int)), .pu (.int m), .pu (.int k), .un, .un, y]) (iRng_r (n := (n : Int)) (eVar_r rfl) (by omega)) ⟨rfl, by unfold rngD; simp; omega⟩ (by rw [Int.toNat_natCast]; exact e3) rfl ?_
          exact rfl
        · apply putS_ow
          · simp
          · exact rfl
      · apply sSeq_r e4
        apply sSeq_r (st1 := [.ow l5, .pu (.int (n : Int)), .pu (.int m), .pu (.int k), .ow (L4.map .int), .pu (.int t), .un])
        · apply sSet_r e5
          apply putS_r
          · simp
          · exact rfl
        · apply sSeq_r e6
          exact rfl
  · exact rfl
end G
end

end

section
set_option Elab.async false
set_option linter.all false
set_option maxRecDepth 100000
set_option maxHeartbeats 2000000
set_option exponentiation.threshold 10000
noncomputable section
namespace G
open PySem L2 TX
/-! fractions in lowest terms are rational numbers -/
def ofR (r : Rat) : Int × Int := (r.num, (r.den : Int))
abbrev Nr (r : Rat) : D := .tup [.int r.num, .int (r.den : Int)]
def val (u : Int × Int) : Rat := (u.1 : Rat) / (u.2 : Rat)
theorem den_ne (r : Rat) : ((r.den : Int) : Rat) ≠ 0 := by
  have := r.den_pos
  intro h
  have : (r.den : Int) = 0 := Rat.intCast_inj.mp (by rw [h]; rfl)
  omega
theorem num_eq (r : Rat) : (r.num : Rat) = r * ((r.den : Int) : Rat) := by
  have h := Rat.num_divInt_den r
  rw [Rat.divInt_eq_div] at h
  have hd := den_ne r
  generalize (r.num : Rat) = a at *
  generalize ((r.den : Int) : Rat) = b at *
  grind
theorem nb_ofR (r : Rat) : Nb (ofR r).1 (ofR r).2 := ⟨by have := r.den_pos; show (0 : Int) < (r.den : Int); omega, r.reduced⟩
theorem icast_ne {q : Int} (h : q ≠ 0) : (q : Rat) ≠ 0 := fun e => h (Rat.intCast_inj.mp (by rw [e]; rfl))
theorem nmP_rat {p q : Int} (h : q ≠ 0) : nmP p q = ofR ((p : Rat) / (q : Rat)) := by
  refine eq_of_cross h (nb_ofR _) (Rat.intCast_inj.mp ?_)
  show ((p * ((((p : Rat) / (q : Rat)).den : Nat) : Int) : Int) : Rat) = ((((p : Rat) / (q : Rat)).num * q : Int) : Rat)
  rw [Rat.intCast_mul, Rat.intCast_mul, num_eq]
  have hq := icast_ne h
  generalize ((((p : Rat) / (q : Rat)).den : Int) : Rat) = d
  generalize (p : Rat) = a at *
  generalize (q : Rat) = b at *
  grind
theorem nm_rat {p q : Int} (h : q ≠ 0) : nm p q = Nr ((p : Rat) / (q : Rat)) := by rw [nm_np, nmP_rat h]; rfl
theorem val_ofR (r : Rat) : val (ofR r) = r := by
  have h := Rat.num_divInt_den r
  rw [Rat.divInt_eq_div] at h
  exact h
theorem ofR_val {u : Int × Int} (h : Nb u.1 u.2) : ofR (val u) = u := by
  show ofR ((u.1 : Rat) / (u.2 : Rat)) = u
  rw [← nmP_rat (nb_ne h)]
  exact eq_of_cross (nb_ne h) h rfl
theorem ofR_inj {a b : Rat} (h : ofR a = ofR b) : a = b := by rw [← val_ofR a, h, val_ofR]
/-- a number of fewer than B bits above and below -/
def Bt (B : Nat) (r : Rat) : Prop := r.num.natAbs < 2 ^ B ∧ r.den < 2 ^ B
theorem Bt.gp {B : Nat} {r : Rat} (h : Bt B r) : Gp B (ofR r) := ⟨nb_ofR r, h.1, by show ((r.den : Int)).natAbs < _; rw [Int.natAbs_natCast]; exact h.2⟩
theorem bt_of {B : Nat} {r : Rat} (h : Gp B (ofR r)) : Bt B r := ⟨h.2.1, by have := h.2.2; show r.den < _; rwa [show ((ofR r).2).natAbs = r.den from Int.natAbs_natCast _] at this⟩
theorem Bt.mono {B C : Nat} {r : Rat} (h : Bt B r) (hc : B ≤ C) : Bt C r := ⟨Nat.lt_of_lt_of_le h.1 (Nat.pow_le_pow_right (by decide) hc), Nat.lt_of_lt_of_le h.2 (Nat.pow_le_pow_right (by decide) hc)⟩
theorem bt_div {B : Nat} {p q : Int} (h : q ≠ 0) (hp : p.natAbs < 2 ^ B) (hq : q.natAbs < 2 ^ B) : Bt B ((p : Rat) / (q : Rat)) := bt_of (by rw [← nmP_rat h]; exact gp_nmP h hp hq)
theorem plus_rat (a b : Rat) : plusP (ofR a) (ofR b) = ofR (a + b) := by
  have h1 := (nb_ofR a).1
  have h2 := (nb_ofR b).1
  have hq : (ofR a).2 * (ofR b).2 ≠ 0 := Int.mul_ne_zero (nb_ne (nb_ofR a)) (nb_ne (nb_ofR b))
  unfold plusP
  rw [nmP_rat hq]
  congr 1
  show ((a.num * (b.den : Int) + b.num * (a.den : Int) : Int) : Rat) / (((a.den : Int) * (b.den : Int) : Int) : Rat) = a + b
  rw [Rat.intCast_mul, Rat.intCast_add, Rat.intCast_mul, Rat.intCast_mul, num_eq a, num_eq b]
  have d1 := den_ne a
  have d2 := den_ne b
  generalize ((a.den : Int) : Rat) = x at *
  generalize ((b.den : Int) : Rat) = y at *
  grind
theorem bt_add {B C : Nat} {a b : Rat} (ha : Bt B a) (hb : Bt C b) : Bt (B + C + 1) (a + b) := bt_of (by rw [← plus_rat]; exact plus_gp ha.gp hb.gp)
theorem times_rat (a b : Rat) : nmP ((ofR a).1 * (ofR b).1) ((ofR a).2 * (ofR b).2) = ofR (a * b) := by
  have hq : (ofR a).2 * (ofR b).2 ≠ 0 := Int.mul_ne_zero (nb_ne (nb_ofR a)) (nb_ne (nb_ofR b))
  rw [nmP_rat hq]
  congr 1
  show ((a.num * b.num : Int) : Rat) / (((a.den : Int) * (b.den : Int) : Int) : Rat) = a * b
  rw [Rat.intCast_mul, Rat.intCast_mul, num_eq a, num_eq b]
  have d1 := den_ne a
  have d2 := den_ne b
  generalize ((a.den : Int) : Rat) = x at *
  generalize ((b.den : Int) : Rat) = y at *
  grind
theorem bt_mul {B C : Nat} {a b : Rat} (ha : Bt B a) (hb : Bt C b) : Bt (B + C) (a * b) := bt_of (by
  rw [← times_rat]
  exact gp_nmP (Int.mul_ne_zero (nb_ne (nb_ofR a)) (nb_ne (nb_ofR b))) (mul_step ha.gp.2.1 hb.gp.2.1) (mul_step ha.gp.2.2 hb.gp.2.2))
theorem num_ne {b : Rat} (h : b ≠ 0) : b.num ≠ 0 := fun e => h (Rat.num_eq_zero.mp e)
theorem by_rat {a b : Rat} (h : b ≠ 0) : nmP ((ofR a).1 * (ofR b).2) ((ofR a).2 * (ofR b).1) = ofR (a / b) := by
  have hq : (ofR a).2 * (ofR b).1 ≠ 0 := Int.mul_ne_zero (nb_ne (nb_ofR a)) (num_ne h)
  rw [nmP_rat hq]
  congr 1
  show ((a.num * (b.den : Int) : Int) : Rat) / (((a.den : Int) * b.num : Int) : Rat) = a / b
  rw [Rat.intCast_mul, Rat.intCast_mul, num_eq a, num_eq b]
  have d1 := den_ne a
  have d2 := den_ne b
  generalize ((a.den : Int) : Rat) = x at *
  generalize ((b.den : Int) : Rat) = y at *
  grind
theorem bt_by {B C : Nat} {a b : Rat} (hz : b ≠ 0) (ha : Bt B a) (hb : Bt C b) : Bt (B + C) (a / b) := bt_of (by
  rw [← by_rat hz]
  exact gp_nmP (Int.mul_ne_zero (nb_ne (nb_ofR a)) (num_ne hz)) (mul_step ha.gp.2.1 hb.gp.2.2) (mul_step ha.gp.2.2 hb.gp.2.1))
theorem minus_rat (a b : Rat) : nmP ((ofR a).1 * (ofR b).2 - (ofR b).1 * (ofR a).2) ((ofR a).2 * (ofR b).2) = ofR (a - b) := by
  have hq : (ofR a).2 * (ofR b).2 ≠ 0 := Int.mul_ne_zero (nb_ne (nb_ofR a)) (nb_ne (nb_ofR b))
  rw [nmP_rat hq]
  congr 1
  show ((a.num * (b.den : Int) - b.num * (a.den : Int) : Int) : Rat) / (((a.den : Int) * (b.den : Int) : Int) : Rat) = a - b
  rw [Rat.intCast_mul, Rat.intCast_sub, Rat.intCast_mul, Rat.intCast_mul, num_eq a, num_eq b]
  have d1 := den_ne a
  have d2 := den_ne b
  generalize ((a.den : Int) : Rat) = x at *
  generalize ((b.den : Int) : Rat) = y at *
  grind
theorem bt_neg {B : Nat} {a : Rat} (h : Bt B a) : Bt B (-a) := ⟨by show (-a.num).natAbs < _; rw [Int.natAbs_neg]; exact h.1, h.2⟩
theorem bt_sub {B C : Nat} {a b : Rat} (ha : Bt B a) (hb : Bt C b) : Bt (B + C + 1) (a - b) := by rw [Rat.sub_eq_add_neg]; exact bt_add ha (bt_neg hb)
theorem less_rat (a b : Rat) : decide (a.num * (b.den : Int) < b.num * (a.den : Int)) = decide (a < b) := decide_eq_decide.mpr (Rat.lt_iff a b).symm
theorem bt_zero : Bt 1 0 := ⟨by decide, by decide⟩
theorem bt_one : Bt 1 1 := ⟨by decide, by decide⟩
theorem nr_zero : Nr 0 = .tup [.int 0, .int 1] := rfl
theorem nr_one : Nr 1 = .tup [.int 1, .int 1] := rfl
end G
end

end

section
set_option Elab.async false
set_option linter.all false
set_option maxRecDepth 100000
set_option maxHeartbeats 2000000
set_option exponentiation.threshold 10000
noncomputable section
namespace G
open PySem L2 TX
/-! runs of numbers.py over rational numbers -/
variable {B C : Nat} {a b : Rat}
theorem log_den {B : Nat} {n : Int} (h : n.natAbs < 2 ^ B) (hB : B ≤ 8000) : n.natAbs.log2 < 9000 := by
  have := log_lt (B := B + 1) (n := n.natAbs) (Nat.lt_of_lt_of_le h (Nat.pow_le_pow_right (by decide) (by omega))) (by omega)
  rcases Nat.eq_zero_or_pos B with e | e
  · subst e
    have : n.natAbs = 0 := by omega
    rw [this]; decide
  · exact log_lt h e hB
theorem mOk_bt {i j : Nat} {x y : Int} (ha : x.natAbs < 2 ^ i) (hb : y.natAbs < 2 ^ j) (h : i + j ≤ 900000) : mOk x y :=
  mOk_of (i := i + 1) (j := j + 1) (Nat.lt_of_lt_of_le ha (Nat.pow_le_pow_right (by decide) (by omega))) (Nat.lt_of_lt_of_le hb (Nat.pow_le_pow_right (by decide) (by omega))) (by omega) (by omega) (by omega)
theorem den_abs (r : Rat) : ((r.den : Int)).natAbs = r.den := Int.natAbs_natCast _
section
variable (ha : Bt B a) (hb : Bt C b) (hs : B + C ≤ 8000)
include ha hb hs
theorem m_nn : mOk a.num b.num := mOk_bt ha.1 hb.1 (by omega)
theorem m_nd : mOk a.num (b.den : Int) := mOk_bt ha.1 (by rw [den_abs]; exact hb.2) (by omega)
theorem m_dn : mOk (a.den : Int) b.num := mOk_bt (by rw [den_abs]; exact ha.2) hb.1 (by omega)
theorem m_dd : mOk (a.den : Int) (b.den : Int) := mOk_bt (by rw [den_abs]; exact ha.2) (by rw [den_abs]; exact hb.2) (by omega)
theorem l_dd : ((a.den : Int) * (b.den : Int)).natAbs.log2 < 9000 := log_den (mul_step (i := B) (j := C) (by rw [den_abs]; exact ha.2) (by rw [den_abs]; exact hb.2)) hs
theorem l_dn : ((a.den : Int) * b.num).natAbs.log2 < 9000 := log_den (mul_step (i := B) (j := C) (by rw [den_abs]; exact ha.2) hb.1) hs
end
theorem dd_ne (a b : Rat) : (a.den : Int) * (b.den : Int) ≠ 0 := Int.mul_ne_zero (nb_ne (nb_ofR a)) (nb_ne (nb_ofR b))
theorem n_isnum (a : Rat) : f_is_number [.pu (Nr a)] = .ok (.bl true, false) [.pu (Nr a)] := by
  rw [run_isnum, decide_eq_true (show Nb a.num (a.den : Int) from nb_ofR a)]
theorem n_check2 (a b : Rat) : f__check_all [.pu (.tup [Nr a, Nr b])] = .ok (.non, false) [.pu (.tup [Nr a, Nr b])] := run_check2 _ _ _ _ (nb_ofR a) (nb_ofR b)
theorem n_number {p q : Int} (h : q ≠ 0) (hl : q.natAbs.log2 < 9000) : f_number [.pu (.int p), .pu (.int q)] = .ok (Nr ((p : Rat) / (q : Rat)), false) [.pu (.int p), .pu (.int q)] := by rw [← nm_rat h]; exact run_num h hl
theorem l_pair {p q : Int} (h : q ≠ 0) (hl : q.natAbs.log2 < 9000) : f__law_pair [.pu (.int p), .pu (.int q)] = .ok (Nr ((p : Rat) / (q : Rat)), false) [.pu (.int p), .pu (.int q)] := by rw [← nm_rat h]; exact run_pair h hl
theorem nm_plus (a b : Rat) : nm (a.num * (b.den : Int) + b.num * (a.den : Int)) ((a.den : Int) * (b.den : Int)) = Nr (a + b) := congrArg Np (plus_rat a b)
theorem nm_times (a b : Rat) : nm (a.num * b.num) ((a.den : Int) * (b.den : Int)) = Nr (a * b) := congrArg Np (times_rat a b)
theorem nm_minus (a b : Rat) : nm (a.num * (b.den : Int) - b.num * (a.den : Int)) ((a.den : Int) * (b.den : Int)) = Nr (a - b) := congrArg Np (minus_rat a b)
theorem nm_by (a : Rat) {b : Rat} (h : b ≠ 0) : nm (a.num * (b.den : Int)) ((a.den : Int) * b.num) = Nr (a / b) := congrArg Np (by_rat h)
theorem n_plus (ha : Bt B a) (hb : Bt C b) (hs : B + C ≤ 8000) : f_plus [.pu (Nr a), .pu (Nr b)] = .ok (Nr (a + b), false) [.pu (Nr a), .pu (Nr b)] := by
  have e1 := n_check2 a b
  have e2 := run_num (p := a.num * (b.den : Int) + b.num * (a.den : Int)) (dd_ne a b) (l_dd ha hb hs)
  have e3 := fMul_r (m_nd ha hb hs)
  have e4 := fMul_r (m_nd hb ha (by omega))
  have e5 := fMul_r (m_dd ha hb hs)
  have e6 := nm_plus a b
  unfold f_plus r_plus
  walk_at "rsh"
theorem n_minus (ha : Bt B a) (hb : Bt C b) (hs : B + C ≤ 8000) : f_minus [.pu (Nr a), .pu (Nr b)] = .ok (Nr (a - b), false) [.pu (Nr a), .pu (Nr b)] := by
  have e1 := n_check2 a b
  have e2 := run_num (p := a.num * (b.den : Int) - b.num * (a.den : Int)) (dd_ne a b) (l_dd ha hb hs)
  have e3 := fMul_r (m_nd ha hb hs)
  have e4 := fMul_r (m_nd hb ha (by omega))
  have e5 := fMul_r (m_dd ha hb hs)
  have e6 := nm_minus a b
  clear ha hb hs
  unfold f_minus r_minus
  walk_at "rsh"
theorem n_times (ha : Bt B a) (hb : Bt C b) (hs : B + C ≤ 8000) : f_times [.pu (Nr a), .pu (Nr b)] = .ok (Nr (a * b), false) [.pu (Nr a), .pu (Nr b)] := by
  have e1 := n_check2 a b
  have e2 := run_num (p := a.num * b.num) (dd_ne a b) (l_dd ha hb hs)
  have e3 := fMul_r (m_nn ha hb hs)
  have e5 := fMul_r (m_dd ha hb hs)
  have e6 := nm_times a b
  clear ha hb hs
  unfold f_times r_times
  walk_at "rsh"
theorem fEq_zero_nr (hz : b ≠ 0) : fEq true (Nr b) d_ZERO = some (.bl false, false) := by
  have e : SeqAt.shaped (Nr b).toP = true ∧ SeqAt.shaped d_ZERO.toP = true := ⟨rfl, rfl⟩
  have e2 : PyData.eqv (Nr b).toP d_ZERO.toP = false := by
    show PyData.eqv (.tuple [.int b.num, .int b.den]) (.tuple [.int 0, .int 1]) = false
    have := num_ne hz
    simp [PyData.eqv, PyData.eqvAll, this]
  unfold fEq
  rw [e.1, e.2, e2]
  rfl
theorem n_by (ha : Bt B a) (hb : Bt C b) (hs : B + C ≤ 8000) (hz : b ≠ 0) : f_by [.pu (Nr a), .pu (Nr b)] = .ok (Nr (a / b), false) [.pu (Nr a), .pu (Nr b)] := by
  have e1 := n_check2 a b
  have e0 := fEq_zero_nr hz
  have e2 := run_num (p := a.num * (b.den : Int)) (q := (a.den : Int) * b.num) (Int.mul_ne_zero (nb_ne (nb_ofR a)) (num_ne hz)) (l_dn ha hb hs)
  have e3 := fMul_r (m_nd ha hb hs)
  have e5 := fMul_r (m_dn ha hb hs)
  have e6 := nm_by a hz
  clear ha hb hs hz
  unfold f_by r_by
  walk_at "rsh"
theorem n_less (ha : Bt B a) (hb : Bt C b) (hs : B + C ≤ 8000) : f__is_less [.pu (Nr a), .pu (Nr b)] = .ok (.bl (decide (a < b)), false) [.pu (Nr a), .pu (Nr b)] := by
  have e3 := fMul_r (m_nd ha hb hs)
  have e4 := fMul_r (m_nd hb ha (by omega))
  have e6 := less_rat a b
  clear ha hb hs
  unfold f__is_less r__is_less
  walk_at "rsh"
theorem l_plus (ha : Bt B a) (hb : Bt C b) (hs : B + C ≤ 8000) : f__law_plus [.pu (Nr a), .pu (Nr b)] = .ok (Nr (a + b), false) [.pu (Nr a), .pu (Nr b)] := by
  rw [← nm_plus]
  exact run_lplus _ _ _ _ (dd_ne a b) (m_nd ha hb hs) (m_nd hb ha (by omega)) (m_dd ha hb hs) (l_dd ha hb hs)
theorem l_times (ha : Bt B a) (hb : Bt C b) (hs : B + C ≤ 8000) : f__law_times [.pu (Nr a), .pu (Nr b)] = .ok (Nr (a * b), false) [.pu (Nr a), .pu (Nr b)] := by
  rw [← nm_times]
  exact run_ltimes _ _ _ _ (dd_ne a b) (m_nn ha hb hs) (m_dd ha hb hs) (l_dd ha hb hs)
theorem l_less (ha : Bt B a) (hb : Bt C b) (hs : B + C ≤ 8000) : f__law_less [.pu (Nr a), .pu (Nr b)] = .ok (.bl (decide (a < b)), false) [.pu (Nr a), .pu (Nr b)] := by
  rw [← less_rat a b, run_law_less _ _ _ _ (m_nd ha hb hs) (m_nd hb ha (by omega))]
  have e : (a.num * (b.den : Int) - b.num * (a.den : Int) < 0) = (a.num * (b.den : Int) < b.num * (a.den : Int)) := propext (by omega)
  rw [show decide (a.num * (b.den : Int) - b.num * (a.den : Int) < 0) = decide (a.num * (b.den : Int) < b.num * (a.den : Int)) from decide_eq_decide.mpr (by omega)]
/-! rows -/
abbrev Rr (l : List Rat) : D := .tup (l.map Nr)
abbrev Mx := List (List Rat)
abbrev Mr (P : Mx) : D := .tup (P.map Rr)
theorem sum_rat : ∀ (L : List Rat) (s : Rat), (L.map ofR).foldl plusP (ofR s) = ofR (s + L.sum)
  | [], s => by show ofR s = ofR (s + 0); rw [Rat.add_zero]
  | a :: L, s => by
    show (L.map ofR).foldl plusP (plusP (ofR s) (ofR a)) = _
    rw [plus_rat, sum_rat L, List.sum_cons, Rat.add_assoc]
theorem np_ofR (L : List Rat) : (L.map ofR).map Np = L.map Nr := by rw [List.map_map]; rfl
theorem n_total {d : D} {L : List Rat} (h : d = .lst (L.map Nr) ∨ d = .tup (L.map Nr)) (h0 : 0 < B) (hL : ∀ a ∈ L, Bt B a) (hs : 1 + (B + 1) * L.length ≤ 6900) : f_total [.pu d] = .ok (Nr L.sum, false) [.pu d] := by
  have hr : Row d (L.map ofR) := by unfold Row; rw [np_ofR]; exact h
  have e := run_total (B := B) hr h0 (fun u hu => by
    obtain ⟨a, ha, rfl⟩ := List.mem_map.mp hu
    exact (hL a ha).gp) (by rw [List.length_map]; exact hs)
  have e2 : (L.map ofR).foldl plusP (0, 1) = ofR L.sum := by
    have := sum_rat L 0
    rw [Rat.zero_add] at this
    exact this
  rw [e2] at e
  exact e
end G
end

end

section
set_option Elab.async false
set_option linter.all false
set_option maxRecDepth 100000
set_option maxHeartbeats 2000000
set_option exponentiation.threshold 10000
noncomputable section
namespace G
open PySem L2 TX
/-! schemes.py over rational numbers -/
theorem n_is_chance (a : Rat) : f_is_chance [.pu (Nr a)] = .ok (.bl (decide (0 ≤ a)), false) [.pu (Nr a)] := by
  have e1 := n_isnum a
  have e2 : decide ((0 : Int) ≤ a.num) = decide (0 ≤ a) := decide_eq_decide.mpr Rat.num_nonneg
  unfold f_is_chance r_is_chance
  walk_at "rsh"
/-- rows that are chances, of sum 1 -/
structure Rok (B : Nat) (l : List Rat) : Prop where
  len : l.length ≤ 100
  nn : ∀ a ∈ l, 0 ≤ a
  bt : ∀ a ∈ l, Bt B a
  sum : l.sum = 1
  bits : 0 < B ∧ 1 + (B + 1) * l.length ≤ 6900
theorem n_is_row {B : Nat} {l : List Rat} (h : Rok B l) : f_is_row [.pu (Rr l)] = .ok (.bl true, false) [.pu (Rr l)] := by
  have e1 : eAll true [1] (iSeq (eVar 0)) (putN [] 1) tTrue (eCallP (aCons (eVar 1) aNil) id f_is_chance) [.pu (Rr l), .un] = .ok (.bl (l.all fun a => decide (0 ≤ a)), false) [.pu (Rr l), .un] :=
    eAll_gen true Nr (fun a => decide (0 ≤ a)) (fun a => [.pu (Rr l), .pu (Nr a)]) l (by rfl) (by have := h.len; omega) fun a _ => ⟨false, by
      have := n_is_chance a
      walk_at "rsh"⟩
  have e2 : (l.all fun a => decide (0 ≤ a)) = true := List.all_eq_true.mpr fun a ha => decide_eq_true (h.nn a ha)
  have e3 := n_total (B := B) (d := Rr l) (L := l) (.inr rfl) h.bits.1 h.bt h.bits.2
  have e4 : fEq true (Nr 1) d_ONE = some (.bl true, false) := rfl
  have hs := h.sum
  clear h
  unfold f_is_row r_is_row
  walk_at "rsh"
/-- schemes -/
structure Sch (B w : Nat) (P : Mx) : Prop where
  ne : P ≠ []
  len : P.length ≤ 100
  row : ∀ r ∈ P, Rok B r
  wid : ∀ r ∈ P, r.length = w
theorem Sch.w1 {B w : Nat} {P : Mx} (h : Sch B w P) : w ≤ 100 := by
  obtain ⟨r, hr⟩ := List.exists_mem_of_ne_nil _ h.ne
  rw [← h.wid r hr]
  exact (h.row r hr).len
theorem Sch.w0 {B w : Nat} {P : Mx} (h : Sch B w P) : 0 < w := by
  obtain ⟨r, hr⟩ := List.exists_mem_of_ne_nil _ h.ne
  rw [← h.wid r hr]
  refine List.length_pos_iff.mpr fun e => ?_
  have := (h.row r hr).sum
  rw [e] at this
  exact absurd this (by decide)
theorem n_is_scheme {B w : Nat} {P : Mx} (h : Sch B w P) : f_is_scheme [.pu (Mr P)] = .ok (.bl true, false) [.pu (Mr P)] := by
  have e1 : eAll true [1] (iSeq (eVar 0)) (putN [] 1) tTrue (eCallP (aCons (eVar 1) aNil) id f_is_row) [.pu (Mr P), .un] = .ok (.bl (P.all fun _ => true), false) [.pu (Mr P), .un] :=
    eAll_gen true Rr (fun _ => true) (fun a => [.pu (Mr P), .pu (Rr a)]) P (by rfl) (by have := h.len; omega) fun a ha => ⟨false, by
      have := n_is_row (h.row a ha)
      walk_at "rsh"⟩
  obtain ⟨r0, Q, eP⟩ := List.exists_cons_of_ne_nil h.ne
  have e2 : eAll true [1] (iSeq (eVar 0)) (putN [] 1) tTrue (eBin (fEq true) (eV1 fLen 1) (eUn fLen (eIxV 0 (eC (.int 0))))) [.pu (Mr P), .un] = .ok (.bl (P.all fun _ => true), false) [.pu (Mr P), .un] :=
    eAll_gen true Rr (fun _ => true) (fun a => [.pu (Mr P), .pu (Rr a)]) P (by rfl) (by have := h.len; omega) fun a ha => ⟨false, by
      have w1 := h.wid a ha
      have w2 := h.wid r0 (by rw [eP]; exact List.mem_cons_self)
      have e3 : fIx (Mr P) (.int 0) = some (Rr r0, false) := by rw [eP]; exact ix_t0
      have e4 : fEq true (.int ((a.map Nr).length : Int)) (.int ((r0.map Nr).length : Int)) = some (.bl true, false) := by rw [fEqI_r, List.length_map, List.length_map, w1, w2]; simp
      clear eP h
      walk_at "rsh"⟩
  have e3 : decide ((0 : Int) < ((P.map Rr).length : Int)) = true := decide_eq_true (by rw [eP]; simp only [List.map_cons, List.length_cons]; omega)
  have e4 : (P.all fun _ => true) = true := by simp
  clear eP h
  unfold f_is_scheme r_is_scheme
  walk_at "rsh"
theorem n_check_scheme {B w : Nat} {P : Mx} (h : Sch B w P) : f_check_scheme [.pu (Mr P)] = .ok (.non, false) [.pu (Mr P)] := by
  have := n_is_scheme h
  clear h
  unfold f_check_scheme r_check_scheme
  walk_at "rsh"
end G
end

end

section
set_option Elab.async false
set_option linter.all false
set_option maxRecDepth 100000
set_option maxHeartbeats 2000000
set_option exponentiation.threshold 10000
noncomputable section
namespace G
open PySem L2 TX
/-! products of schemes -/
def dotR (a b : List Rat) : Rat := ((a.zip b).map fun z => z.1 * z.2).sum
def col (Q : Mx) (j : Nat) : List Rat := Q.map fun r => r.getD j 0
def cols (Q : Mx) (w : Nat) : Mx := (List.range w).map (col Q)
def mulM (P Q : Mx) (w : Nat) : Mx := P.map fun r => (cols Q w).map (dotR r)
theorem bt_sum {B : Nat} : ∀ (L : List Rat), (∀ a ∈ L, Bt B a) → Bt (1 + (B + 1) * L.length) L.sum
  | [], _ => bt_zero
  | a :: L, h => by
    have ih := bt_sum L fun b hb => h b (List.mem_cons_of_mem _ hb)
    have := bt_add (h a List.mem_cons_self) ih
    rw [List.sum_cons]
    refine this.mono ?_
    rw [List.length_cons, Nat.mul_succ]
    omega
theorem bt_dot {B C : Nat} {a b : List Rat} (ha : ∀ x ∈ a, Bt B x) (hb : ∀ x ∈ b, Bt C x) : Bt (1 + (B + C + 1) * (a.zip b).length) (dotR a b) := by
  have := bt_sum (B := B + C) ((a.zip b).map fun z => z.1 * z.2) fun x hx => by
    obtain ⟨z, hz, rfl⟩ := List.mem_map.mp hx
    exact bt_mul (ha _ (List.of_mem_zip hz).1) (hb _ (List.of_mem_zip hz).2)
  rwa [List.length_map] at this
theorem n_dot {B C : Nat} {a b : List Rat} (ha : ∀ x ∈ a, Bt B x) (hb : ∀ x ∈ b, Bt C x) (h0 : 0 < B) (hl : a.length ≤ 100) (hs : 1 + (B + C + 1) * a.length ≤ 6900) (hs2 : B + C ≤ 8000) : f_dot [.pu (Rr a), .pu (Rr b)] = .ok (Nr (dotR a b), false) [.pu (Rr a), .pu (Rr b)] := by
  have hz : (a.zip b).length ≤ a.length := by rw [List.length_zip]; omega
  have e1 : eLc [2, 3] (iZipD (aCons (eVar 0) (aCons (eVar 1) (aNil)))) (putT [] [2, 3]) (tTrue) (eCallP (aCons (eVar 2) (aCons (eVar 3) (aNil))) id f_times) [.pu (Rr a), .pu (Rr b), .un, .un] = .ok (.lst ((a.zip b).map fun z => Nr (z.1 * z.2)), true) [.pu (Rr a), .pu (Rr b), .un, .un] := by
    have hz1 := zipD_map (f := Nr) (g := Nr) a b
    exact eLc_map (fun z : Rat × Rat => .tup [Nr z.1, Nr z.2]) (fun z => Nr (z.1 * z.2)) (fun z => [.pu (Rr a), .pu (Rr b), .pu (Nr z.1), .pu (Nr z.2)]) (a.zip b) (by clear hz; walk_at "rsh") (by omega) fun z hz => ⟨false, by
      have := n_times (ha _ (List.of_mem_zip hz).1) (hb _ (List.of_mem_zip hz).2) hs2
      clear hz1
      walk_at "rsh"⟩
  have e2 : (a.zip b).map (fun z => Nr (z.1 * z.2)) = ((a.zip b).map fun z => z.1 * z.2).map Nr := by rw [List.map_map]; rfl
  have e3 := n_total (B := B + C) (d := .lst (((a.zip b).map fun z => z.1 * z.2).map Nr)) (L := (a.zip b).map fun z => z.1 * z.2) (.inl rfl) (by omega) (fun x hx => by
    obtain ⟨z, hz, rfl⟩ := List.mem_map.mp hx
    exact bt_mul (ha _ (List.of_mem_zip hz).1) (hb _ (List.of_mem_zip hz).2)) (by
    rw [List.length_map]
    have := Nat.mul_le_mul_left (B + C + 1) hz
    omega)
  rw [e2] at e1
  unfold dotR
  clear e2 hs hs2 hl ha hb h0 hz
  unfold f_dot r_dot
  walk_at "rsh"
theorem zipS_rows {w : Nat} {Q : Mx} (hne : Q ≠ []) (hw : ∀ r ∈ Q, r.length = w) (hl : Q.length ≤ 12) : zipS? (Q.map Rr) = some ((cols Q w).map Rr) := by
  obtain ⟨r0, q, e⟩ := List.exists_cons_of_ne_nil hne
  have e1 : D.tups? (Q.map Rr) = some (Q.map fun r => r.map Nr) := tups?_map Q
  have e2 : colsD w (Q.map fun r => r.map Nr) = (cols Q w).map Rr := by
    unfold colsD cols col
    rw [List.map_map]
    refine List.map_congr_left fun j hj => ?_
    have hj := List.mem_range.mp hj
    show D.tup _ = D.tup _
    rw [List.map_map, List.map_map]
    congr 1
    refine List.map_congr_left fun r hr => ?_
    show (r.map Nr).getD j .non = Nr (r.getD j 0)
    have hlen : j < r.length := by rw [hw r hr]; exact hj
    rw [List.getD_eq_getElem?_getD, List.getD_eq_getElem?_getD, List.getElem?_map, List.getElem?_eq_getElem hlen]
    rfl
  unfold zipS?
  rw [e1]
  subst e
  show (if _ then some (colsD (r0.map Nr).length _) else none) = _
  rw [if_pos, List.length_map, hw r0 List.mem_cons_self]
  · exact congrArg some e2
  · refine ⟨List.all_eq_true.mpr fun x hx => ?_, by rw [List.length_map]; simp only [List.length_cons] at hl; omega⟩
    obtain ⟨r, hr, rfl⟩ := List.mem_map.mp hx
    rw [List.length_map, List.length_map, hw r (List.mem_cons_of_mem _ hr), hw r0 List.mem_cons_self]
    simp
theorem mem_cols {Q : Mx} {w : Nat} {c : List Rat} (h : c ∈ cols Q w) : ∃ j, j < w ∧ c = col Q j := by
  obtain ⟨j, hj, rfl⟩ := List.mem_map.mp h
  exact ⟨j, List.mem_range.mp hj, rfl⟩
theorem col_bt {B w : Nat} {Q : Mx} (hw : ∀ r ∈ Q, r.length = w) (hb : ∀ r ∈ Q, ∀ a ∈ r, Bt B a) {j : Nat} (hj : j < w) : ∀ a ∈ col Q j, Bt B a := fun a ha => by
  obtain ⟨r, hr, rfl⟩ := List.mem_map.mp ha
  have hl : j < r.length := by rw [hw r hr]; exact hj
  rw [List.getD_eq_getElem?_getD, List.getElem?_eq_getElem hl]
  exact hb r hr _ (List.getElem_mem hl)
theorem n_read_by {B C w v : Nat} {P Q : Mx} (hP : Sch B w P) (hQ : Sch C v Q) (hn : Q.length = w) (hl : Q.length ≤ 12) (hs : 1 + (B + C + 1) * w ≤ 6900) (hs2 : B + C ≤ 8000) : f_read_by [.pu (Mr P), .pu (Mr Q)] = .ok (Mr (mulM P Q v), false) [.pu (Mr P), .pu (Mr Q)] := by
  have c1 := n_check_scheme hP
  have c2 := n_check_scheme hQ
  obtain ⟨p0, p, eP⟩ := List.exists_cons_of_ne_nil hP.ne
  have e3 : fIx (Mr P) (.int 0) = some (Rr p0, false) := by rw [eP]; exact ix_t0
  have w2 := hP.wid p0 (by rw [eP]; exact List.mem_cons_self)
  have e4 : fEq false (.int ((p0.map Nr).length : Int)) (.int ((Q.map Rr).length : Int)) = some (.bl false, false) := by rw [fNeI_r, List.length_map, List.length_map, w2, hn]; simp
  have e5 := zipS_rows hQ.ne hQ.wid hl
  have e6 : ((cols Q v).map Rr).length ≤ 100000 := by
    rw [List.length_map]; unfold cols; rw [List.length_map, List.length_range]; have := hQ.w1; omega
  have n0 : (.int ((p0.map Nr).length : Int) : D) = .int (w : Int) := by rw [List.length_map, w2]
  rw [n0] at e4
  have e3' : fLen (Rr p0) = some (.int (w : Int), false) := by rw [← n0]; rfl
  have inner : ∀ (x3 : Sl), (x3 = .ow ((cols Q v).map Rr) ∨ x3 = .pu (.lst ((cols Q v).map Rr))) → ∀ r ∈ P, ∃ b, eUn fTuple (eLc [5] (iSeq (eVar 3)) (putN [] 5) tTrue (eCallP (aCons (eVar 4) (aCons (eVar 5) aNil)) id f_dot)) [.pu (Mr P), .pu (Mr Q), .pu (.int (w : Int)), x3, .pu (Rr r), .un] = .ok (Rr ((cols Q v).map (dotR r)), b) [.pu (Mr P), .pu (Mr Q), .pu (.int (w : Int)), .pu (.lst ((cols Q v).map Rr)), .pu (Rr r), .un] := fun x3 hx r hr => by
    have l1 : eLc [5] (iSeq (eVar 3)) (putN [] 5) tTrue (eCallP (aCons (eVar 4) (aCons (eVar 5) aNil)) id f_dot) [.pu (Mr P), .pu (Mr Q), .pu (.int (w : Int)), x3, .pu (Rr r), .un] = .ok (.lst ((cols Q v).map fun c => Nr (dotR r c)), true) [.pu (Mr P), .pu (Mr Q), .pu (.int (w : Int)), .pu (.lst ((cols Q v).map Rr)), .pu (Rr r), .un] := by
      refine eLc_map Rr (fun c => Nr (dotR r c)) (fun c => [.pu (Mr P), .pu (Mr Q), .pu (.int (w : Int)), .pu (.lst ((cols Q v).map Rr)), .pu (Rr r), .pu (Rr c)]) (cols Q v) ?_ (by rw [List.length_map] at e6; exact e6) fun c hc => ⟨false, ?_⟩
      · rcases hx with rfl | rfl <;> rfl
      · obtain ⟨j, hj, rfl⟩ := mem_cols hc
        have hb := col_bt hQ.wid (fun r hr => (hQ.row r hr).bt) hj
        have := n_dot (hP.row r hr).bt hb (hP.row r hr).bits.1 (hP.row r hr).len (by rw [hP.wid r hr]; exact hs) hs2
        clear e3 e4 e5 e6 hb eP hx e3'
        walk_at "rsh"
    have l2 : ((cols Q v).map fun c => Nr (dotR r c)) = ((cols Q v).map (dotR r)).map Nr := by rw [List.map_map]; rfl
    rw [l2] at l1
    refine ⟨false, ?_⟩
    clear e3 e4 e5 e6 l2 eP hx e3'
    walk_at "rsh"
  have outer : eLc [4] (iSeq (eVar 0)) (putN [] 4) tTrue (eUn fTuple (eLc [5] (iSeq (eVar 3)) (putN [] 5) tTrue (eCallP (aCons (eVar 4) (aCons (eVar 5) aNil)) id f_dot))) [.pu (Mr P), .pu (Mr Q), .pu (.int (w : Int)), .ow ((cols Q v).map Rr), .un, .un] = .ok (.lst (P.map fun r => Rr ((cols Q v).map (dotR r))), true) [.pu (Mr P), .pu (Mr Q), .pu (.int (w : Int)), .pu (.lst ((cols Q v).map Rr)), .un, .un] :=
    eLc_mapF Rr (fun r => Rr ((cols Q v).map (dotR r))) (fun r => [.pu (Mr P), .pu (Mr Q), .pu (.int (w : Int)), .ow ((cols Q v).map Rr), .pu (Rr r), .un]) (fun r => [.pu (Mr P), .pu (Mr Q), .pu (.int (w : Int)), .pu (.lst ((cols Q v).map Rr)), .pu (Rr r), .un]) P hP.ne (by rfl) (by have := hP.len; omega) (inner _ (.inl rfl)) (inner _ (.inr rfl))
  have e7 : (P.map fun r => Rr ((cols Q v).map (dotR r))) = (mulM P Q v).map Rr := by unfold mulM; rw [List.map_map]; rfl
  rw [e7] at outer
  clear hP hQ e7 eP inner n0
  unfold f_read_by r_read_by
  walk_at "rsh"
end G
end

end

section
set_option Elab.async false
set_option linter.all false
set_option maxRecDepth 100000
set_option maxHeartbeats 4000000
set_option exponentiation.threshold 10000
noncomputable section
namespace G
open PySem L2 TX
/-! ladders.py -/
/-- a ratio: above 0, at most 1 -/
structure Rt (B : Nat) (p : Rat) : Prop where
  bt : Bt B p
  pos : 0 < p
  one : p ≤ 1
def wgt (n : Nat) (p : Rat) (r : Nat) : Rat := if r = 0 ∨ r = n then 1 else 1 - p
def adf (r i : Nat) : Nat := (r - i) + (i - r)
def stp (n : Nat) (p : Rat) (i r : Nat) : Rat := if n = 0 then 1 else wgt n p r * p ^ adf r i / (1 + p)
def lad (n : Nat) (p : Rat) : Mx := (List.range (n + 1)).map fun i => (List.range (n + 1)).map fun r => stp n p i r
theorem pow_abs_lt {B : Nat} {x : Int} (h : x.natAbs < 2 ^ B) : ∀ k : Nat, (x ^ k).natAbs < 2 ^ (B * k + 1)
  | 0 => by rw [Int.pow_zero, Nat.mul_zero]; decide
  | k + 1 => by
    rw [Int.pow_succ, Int.natAbs_mul, Nat.mul_succ]
    have ih := pow_abs_lt h k
    have e : 2 ^ (B * k + B + 1) = 2 ^ (B * k + 1) * 2 ^ B := by rw [← Nat.pow_add]; congr 1; omega
    rw [e]
    exact Nat.mul_lt_mul'' ih h
theorem den_pow_int (p : Rat) (k : Nat) : (((p ^ k).den : Nat) : Int) = (p.den : Int) ^ k := by rw [Rat.den_pow, Int.natCast_pow]
theorem bt_pow {B : Nat} {p : Rat} (h : Bt B p) (k : Nat) : Bt (B * k + 1) (p ^ k) := by
  refine ⟨by rw [Rat.num_pow]; exact pow_abs_lt h.1 k, ?_⟩
  have := pow_abs_lt (x := (p.den : Int)) (B := B) (by rw [den_abs]; exact h.2) k
  rw [← den_pow_int, den_abs] at this
  exact this
theorem n_whole (i : Int) : f_is_whole [.pu (.int i)] = .ok (.bl true, false) [.pu (.int i)] := run_whole i
theorem n_check_count (n : Nat) : f_check_count [.pu (.int (n : Int))] = .ok (.non, false) [.pu (.int (n : Int))] := by
  have e1 := n_whole (n : Int)
  have e2 : decide ((n : Int) < 0) = false := decide_eq_false (by omega)
  unfold f_check_count r_check_count
  walk_at "rsh"
theorem num_le_den {p : Rat} (h : p ≤ 1) : p.num ≤ (p.den : Int) := by
  have := (Rat.le_iff p 1).mp h
  simpa using this
theorem num_pos {p : Rat} (h : 0 < p) : 0 < p.num := by
  have h1 := Rat.num_nonneg.mpr (Rat.le_of_lt h)
  have h2 := num_ne (fun z => by rw [z] at h; exact absurd h (by decide) : p ≠ 0)
  omega
theorem n_check_ratio {B : Nat} {p : Rat} (h : Rt B p) : f_check_ratio [.pu (Nr p)] = .ok (.non, false) [.pu (Nr p)] := by
  have e1 := n_isnum p
  have e2 : decide ((0 : Int) < p.num) = true := decide_eq_true (num_pos h.pos)
  have e3 : decide (p.num ≤ (p.den : Int)) = true := decide_eq_true (num_le_den h.one)
  clear h
  unfold f_check_ratio r_check_ratio
  walk_at "rsh"
theorem n_check1 (a : Rat) : f__check_all [.pu (.tup [Nr a])] = .ok (.non, false) [.pu (.tup [Nr a])] := by
  have := run_checkR (d := .tup ([ofR a].map Np)) (.inr rfl) (fun u hu => by rw [List.mem_singleton.mp hu]; exact nb_ofR a)
  exact this
abbrev powBody : EvS := sSeq (sSet [] 2 (eBin fMul (eVar 2) (eIxV 0 (eC (.int 0))))) (sSet [] 3 (eBin fMul (eVar 3) (eIxV 0 (eC (.int 1)))))
theorem n_power {B : Nat} {p : Rat} (h : Bt B p) {k : Nat} (hk : k ≤ 20) (hB : B ≤ 200) : f_power [.pu (Nr p), .pu (.int (k : Int))] = .ok (Nr (p ^ k), false) [.pu (Nr p), .pu (.int (k : Int))] := by
  have e1 := n_check1 p
  have e2 := n_check_count k
  obtain ⟨s', h1, x4, rfl, _⟩ := sFor_rem (put := putN [] 4) (body := powBody) (fun (j : Nat) => D.int (j : Int)) (fun (j : Nat) _ => j + 1)
    (fun j rest st => ∃ x4, st = [.pu (Nr p), .pu (.int (k : Int)), .pu (.int (p.num ^ j)), .pu (.int ((p.den : Int) ^ j)), x4] ∧ j + rest.length = k) (List.range k) (by
      rintro j0 _ rest j st ⟨x4, rfl, hle⟩
      rw [List.length_cons] at hle
      have hb : B * j ≤ 200 * 20 := Nat.mul_le_mul hB (by omega)
      have m1 := fMul_r (mOk_bt (i := B * j + 1) (j := B) (x := p.num ^ j) (y := p.num) (pow_abs_lt h.1 j) h.1 (by omega))
      have m2 := fMul_r (mOk_bt (i := B * j + 1) (j := B) (x := (p.den : Int) ^ j) (y := (p.den : Int)) (pow_abs_lt (by rw [den_abs]; exact h.2) j) (by rw [den_abs]; exact h.2) (by omega))
      rw [← Int.pow_succ] at m1 m2
      refine ⟨[.pu (Nr p), .pu (.int (k : Int)), .pu (.int (p.num ^ j)), .pu (.int ((p.den : Int) ^ j)), .pu (.int (j0 : Int))], [.pu (Nr p), .pu (.int (k : Int)), .pu (.int (p.num ^ (j + 1))), .pu (.int ((p.den : Int) ^ (j + 1))), .pu (.int (j0 : Int))], rfl, ?_, _, rfl, by omega⟩
      clear e1 e2 hle hb h
      walk_at "rsh") 0 [.pu (Nr p), .pu (.int (k : Int)), .pu (.int 1), .pu (.int 1), .un] ⟨.un, by rw [Int.pow_zero, Int.pow_zero], by rw [List.length_range]; omega⟩
  have e3 : ∀ (L : List Nat) (j : Nat), L.foldl (fun (j : Nat) _ => j + 1) j = j + L.length := by
    intro L
    induction L with
    | nil => intro j; rfl
    | cons a L ih => intro j; rw [List.foldl_cons, ih, List.length_cons]; omega
  rw [e3, List.length_range, Nat.zero_add] at h1
  have e4 : rngI (.int (k : Int)) [.pu (Nr p), .pu (.int (k : Int)), .pu (.int 1), .pu (.int 1), .un] = .ok ((List.range k).map fun (j : Nat) => D.int (j : Int)) [.pu (Nr p), .pu (.int (k : Int)), .pu (.int 1), .pu (.int 1), .un] := by
    rw [rngI_ok (by omega), Int.toNat_natCast, rng0]
  have e5 : Nr (p ^ k) = .tup [.int (p.num ^ k), .int ((p.den : Int) ^ k)] := by
    show D.tup [.int (p ^ k).num, .int ((p ^ k).den : Int)] = _
    rw [den_pow_int, Rat.num_pow]
  have e6 : d_ONE = .tup [.int 1, .int 1] := rfl
  rw [e5]
  clear e3 e5 hk hB h
  unfold f_power r_power
  walk_at "rsh"
theorem fIn_two {r n : Nat} : fIn true (.int (r : Int)) (.tup [.int 0, .int (n : Int)]) = some (.bl (decide (r = 0 ∨ r = n)), false) := by
  have e : SeqAt.shaped (D.int (r : Int)).toP = true ∧ SeqAt.shaped (D.tup [.int 0, .int (n : Int)]).toP = true := ⟨rfl, rfl⟩
  have q : ∀ m : Int, PyData.eqv (.int m) (.int (r : Int)) = decide (m = (r : Int)) := fun m => by
    first | rfl | (simp [PyData.eqv]; done) | (unfold PyData.eqv; by_cases h : m = r <;> simp [h])
  show (if (SeqAt.shaped (D.int (r : Int)).toP && SeqAt.shaped (D.tup [.int 0, .int (n : Int)]).toP) = true then some (D.bl (([D.int 0, D.int (n : Int)].any fun z => PyData.eqv z.toP (.int (r : Int))) == true), false) else none) = _
  rw [e.1, e.2]
  show some (D.bl (([D.int 0, D.int (n : Int)].any fun z => PyData.eqv z.toP (.int (r : Int))) == true), false) = _
  have e2 : ([D.int 0, D.int (n : Int)].any fun z => PyData.eqv z.toP (.int (r : Int))) = decide (r = 0 ∨ r = n) := by
    simp only [List.any_cons, List.any_nil, Bool.or_false]
    show (PyData.eqv (.int 0) (.int (r : Int)) || PyData.eqv (.int (n : Int)) (.int (r : Int))) = _
    rw [q, q]
    by_cases h1 : r = 0 <;> by_cases h2 : r = n <;> simp [h1, h2] <;> omega
  rw [e2]
  cases decide (r = 0 ∨ r = n) <;> rfl
theorem adf_abs (r i : Nat) : (((r : Int) - (i : Int)).natAbs : Int) = ((adf r i : Nat) : Int) := by unfold adf; omega
theorem one_p {B : Nat} {p : Rat} (h : Rt B p) : 0 < 1 + p := by have := h.pos; grind
theorem wgt_bt {B n r : Nat} {p : Rat} (h : Rt B p) : Bt (B + 3) (wgt n p r) := by
  unfold wgt
  split
  · exact bt_one.mono (by omega)
  · exact (bt_sub bt_one h.bt).mono (by omega)
theorem n_step {B : Nat} {p : Rat} (h : Rt B p) (hB : B ≤ 60) {n i r : Nat} (hn : n ≤ 10) (hi : i ≤ n) (hr : r ≤ n) : f__step [.pu (.int (n : Int)), .pu (Nr p), .pu (.int (i : Int)), .pu (.int (r : Int))] = .ok (Nr (stp n p i r), false) [.pu (.int (n : Int)), .pu (Nr p), .pu (.int (i : Int)), .pu (.int (r : Int))] := by
  have e6 : d_ONE = Nr 1 := rfl
  by_cases h0 : n = 0
  · have e1 : decide ((n : Int) = 0) = true := decide_eq_true (by omega)
    have e2 : stp n p i r = 1 := by unfold stp; rw [if_pos h0]
    clear h hi hr h0 hn hB
    unfold f__step r__step
    walk_at "rsh"
  · have e1 : decide ((n : Int) = 0) = false := decide_eq_false (by omega)
    have e2 : stp n p i r = wgt n p r * p ^ adf r i / (1 + p) := by unfold stp; rw [if_neg h0]
    have hk : adf r i ≤ 10 := by unfold adf; omega
    have hbk : B * adf r i ≤ 60 * 10 := Nat.mul_le_mul hB hk
    have e3 := fIn_two (r := r) (n := n)
    have e4 := n_minus bt_one h.bt (by omega)
    have e5 := adf_abs r i
    have e7 := n_power h.bt (k := adf r i) (by omega) (by omega)
    have b1 := bt_pow h.bt (adf r i)
    have b2 := wgt_bt (n := n) (r := r) h
    have e8 := n_times b2 b1 (by omega)
    have e9 := n_plus bt_one h.bt (by omega)
    have b3 := bt_mul b2 b1
    have b4 := bt_add bt_one h.bt
    have hz : 1 + p ≠ 0 := fun z => by have := one_p h; rw [z] at this; exact absurd this (by decide)
    have e10 := n_by b3 b4 (by omega) hz
    by_cases hw : r = 0 ∨ r = n
    · have w1 : wgt n p r = 1 := by unfold wgt; rw [if_pos hw]
      have w2 : decide (r = 0 ∨ r = n) = true := decide_eq_true hw
      rw [w2] at e3
      rw [w1] at e8 e10 e2
      clear h hi hr h0 hn hB hk hbk b1 b2 b3 b4 hz hw w1 w2
      unfold f__step r__step
      walk_at "rsh"
    · have w1 : wgt n p r = 1 - p := by unfold wgt; rw [if_neg hw]
      have w2 : decide (r = 0 ∨ r = n) = false := decide_eq_false hw
      rw [w2] at e3
      rw [w1] at e8 e10 e2
      clear h hi hr h0 hn hB hk hbk b1 b2 b3 b4 hz hw w1 w2
      unfold f__step r__step
      walk_at "rsh"
theorem rng_n1 {st : List Sl} {n : Nat} (hn : n ≤ 100) : rngI (.int ((n : Int) + 1)) st = .ok ((List.range (n + 1)).map fun (k : Nat) => D.int (k : Int)) st := by
  rw [rngI_ok (by omega), rng0]
  have e : ((n : Int) + 1).toNat = n + 1 := by omega
  rw [e]
theorem n_row {B : Nat} {p : Rat} (h : Rt B p) (hB : B ≤ 60) {n i : Nat} (hn : n ≤ 10) (hi : i ≤ n) : f__row [.pu (.int (n : Int)), .pu (Nr p), .pu (.int (i : Int))] = .ok (Rr ((List.range (n + 1)).map fun r => stp n p i r), false) [.pu (.int (n : Int)), .pu (Nr p), .pu (.int (i : Int))] := by
  have e1 : eLc [3] (iRng (eBin fAdd (eVar 0) (eC (.int 1)))) (putN [] 3) (tTrue) (eCallP (aCons (eVar 0) (aCons (eVar 1) (aCons (eVar 2) (aCons (eVar 3) (aNil))))) id f__step) [.pu (.int (n : Int)), .pu (Nr p), .pu (.int (i : Int)), .un] = .ok (.lst ((List.range (n + 1)).map fun r => Nr (stp n p i r)), true) [.pu (.int (n : Int)), .pu (Nr p), .pu (.int (i : Int)), .un] :=
    eLc_map (fun (k : Nat) => D.int (k : Int)) (fun r => Nr (stp n p i r)) (fun r => [.pu (.int (n : Int)), .pu (Nr p), .pu (.int (i : Int)), .pu (.int (r : Int))]) (List.range (n + 1)) (by have := fun st => rng_n1 (st := st) (n := n) (by omega); clear h hi hn hB; walk_at "rsh") (by rw [List.length_range]; omega) fun r hr => ⟨false, by
      have := n_step h hB hn hi (r := r) (by have := List.mem_range.mp hr; omega)
      clear h hi hr hn hB
      walk_at "rsh"⟩
  have e2 : ((List.range (n + 1)).map fun r => Nr (stp n p i r)) = ((List.range (n + 1)).map fun r => stp n p i r).map Nr := by rw [List.map_map]; rfl
  rw [e2] at e1
  clear h hi hn hB e2
  unfold f__row r__row
  walk_at "rsh"
theorem n_ladder {B : Nat} {p : Rat} (h : Rt B p) (hB : B ≤ 60) {n : Nat} (hn : n ≤ 10) : f_ladder [.pu (.int (n : Int)), .pu (Nr p)] = .ok (Mr (lad n p), false) [.pu (.int (n : Int)), .pu (Nr p)] := by
  have c1 := n_check_count n
  have c2 := n_check_ratio h
  have e1 : eLc [2] (iRng (eBin fAdd (eVar 0) (eC (.int 1)))) (putN [] 2) (tTrue) (eCallP (aCons (eVar 0) (aCons (eVar 1) (aCons (eVar 2) (aNil)))) id f__row) [.pu (.int (n : Int)), .pu (Nr p), .un] = .ok (.lst ((List.range (n + 1)).map fun i => Rr ((List.range (n + 1)).map fun r => stp n p i r)), true) [.pu (.int (n : Int)), .pu (Nr p), .un] :=
    eLc_map (fun (k : Nat) => D.int (k : Int)) (fun i => Rr ((List.range (n + 1)).map fun r => stp n p i r)) (fun r => [.pu (.int (n : Int)), .pu (Nr p), .pu (.int (r : Int))]) (List.range (n + 1)) (by have := fun st => rng_n1 (st := st) (n := n) (by omega); clear h hn hB; walk_at "rsh") (by rw [List.length_range]; omega) fun i hi => ⟨false, by
      have := n_row h hB hn (i := i) (by have := List.mem_range.mp hi; omega)
      clear h hi hn hB c1 c2
      walk_at "rsh"⟩
  have e2 : ((List.range (n + 1)).map fun i => Rr ((List.range (n + 1)).map fun r => stp n p i r)) = (lad n p).map Rr := by unfold lad; rw [List.map_map]; rfl
  rw [e2] at e1
  clear h hn hB e2
  unfold f_ladder r_ladder
  walk_at "rsh"
end G
end

end

section
set_option Elab.async false
set_option linter.all false
set_option maxRecDepth 100000
set_option maxHeartbeats 4000000
set_option exponentiation.threshold 10000
noncomputable section
namespace G
open PySem L2 TX
theorem take_k {l : List D} (hl : Dk l) {m : Int} (hm : 0 < m) (hs : m < 2 ^ 60) : ∃ (r : Int) (l' : List D), f__law_take [.ow l, .pu (.int m)] = .ok (.int r, false) [.ow l', .pu (.int m)] ∧ 0 ≤ r ∧ r < m ∧ Dk l' := run_take hl m hm (log_lt (B := 60) (by omega) (by decide) (by decide))
theorem div_le {a b c : Rat} (h : 0 < b) : a / b ≤ c ↔ a ≤ c * b := by
  have := Rat.lt_div_iff (a := c) (b := a) h
  rw [← Rat.not_lt, this, Rat.not_lt]
theorem rt_div {u v : Int} (h1 : 1 ≤ u) (h2 : u ≤ v) (h3 : v < 2 ^ 27) : Rt 27 ((u : Rat) / (v : Rat)) := by
  have hv : (0 : Rat) < (v : Rat) := by have := Rat.intCast_lt_intCast.mpr (show (0 : Int) < v by omega); exact this
  have hu : (0 : Rat) < (u : Rat) := by have := Rat.intCast_lt_intCast.mpr (show (0 : Int) < u by omega); exact this
  refine ⟨bt_div (by omega) (by omega) (by omega), ?_, ?_⟩
  · rw [Rat.div_def]
    exact Rat.mul_pos hu (Rat.inv_pos.mpr hv)
  · refine (div_le hv).mpr ?_
    rw [Rat.one_mul]
    exact Rat.intCast_le_intCast.mpr h2

theorem pick5 {a b c d e : D} {r : Int} (h0 : 0 ≤ r) (h1 : r < 5) : ∃ z, fIx (.lst [a, b, c, d, e]) (.int r) = some (z, false) ∧ (z = a ∨ z = b ∨ z = c ∨ z = d ∨ z = e) := by
  obtain h | h | h | h | h : r = 0 ∨ r = 1 ∨ r = 2 ∨ r = 3 ∨ r = 4 := by omega
  · subst h; exact ⟨a, rfl, by simp⟩
  · subst h; exact ⟨b, rfl, by simp⟩
  · subst h; exact ⟨c, rfl, by simp⟩
  · subst h; exact ⟨d, rfl, by simp⟩
  · subst h; exact ⟨e, rfl, by simp⟩
theorem l_ratio {l : List D} (hl : Dk l) : ∃ u v l', f__law_ratio [.ow l] = .ok (Nr ((u : Int) / (v : Int)), false) [.ow l'] ∧ (1 ≤ u ∧ u < v ∧ v < 2 ^ 27) ∧ Dk l' := by
  obtain ⟨x, l1, h1, x0, x1, d1⟩ := take_k hl (m := 98) (by decide) (by decide)
  obtain ⟨y, l2, h2, y0, y1, d2⟩ := take_k d1 (m := 99999997) (by decide) (by decide)
  obtain ⟨z, l3, h3, z0, z1, d3⟩ := take_k d2 (m := 2 + x - 1) (by omega) (by omega)
  obtain ⟨v, l4, h4, v0, v1, d4⟩ := take_k d3 (m := 2 + y - 1) (by omega) (by omega)
  obtain ⟨r, l5, h5, r0, r1, d5⟩ := take_k d4 (m := 5) (by decide) (by decide)
  obtain ⟨w, h6, h7⟩ := pick5 (a := .tup [.int (1 + z), .int (2 + x)]) (b := .tup [.int 1, .int (2 + y)]) (c := .tup [.int (2 + y), .int (2 + y + 1)]) (d := .tup [.int 1, .int 2]) (e := .tup [.int (1 + v), .int (2 + y)]) r0 r1
  obtain ⟨u, b, e1, q⟩ : ∃ u b : Int, w = .tup [.int u, .int b] ∧ (1 ≤ u ∧ u < b ∧ b < 2 ^ 27) := by
    rcases h7 with h | h | h | h | h
    · exact ⟨_, _, h, by omega, by omega, by omega⟩
    · exact ⟨_, _, h, by omega, by omega, by omega⟩
    · exact ⟨_, _, h, by omega, by omega, by omega⟩
    · exact ⟨_, _, h, by omega, by omega, by omega⟩
    · exact ⟨_, _, h, by omega, by omega, by omega⟩
  subst e1
  have h8 := l_pair (p := u) (q := b) (by omega) (log_lt (B := 60) (by omega) (by decide) (by decide))
  refine ⟨u, b, l5, ?_, q, d5⟩
  clear h7 q d1 d2 d3 d4 d5 x0 x1 y0 y1 z0 z1 v0 v1 r0 r1 hl
  unfold f__law_ratio r__law_ratio
  walk_at "rsh"
theorem nr_inv {a : Rat} (h : 0 < a) : D.tup [.int (a.den : Int), .int a.num] = Nr (1 / a) := by
  have hn := num_pos h
  have hb : Nb (a.den : Int) a.num := ⟨hn, by
    rw [den_abs, Nat.gcd_comm]
    exact a.reduced⟩
  have e := ofR_val (u := ((a.den : Int), a.num)) hb
  have e2 : val ((a.den : Int), a.num) = 1 / a := by
    show ((a.den : Int) : Rat) / (a.num : Rat) = 1 / a
    rw [num_eq]
    have hd := den_ne a
    generalize ((a.den : Int) : Rat) = x at *
    grind
  rw [e2] at e
  show Np ((a.den : Int), a.num) = Np (ofR (1 / a))
  rw [e]
theorem bt_inv {B : Nat} {a : Rat} (h : Bt B a) (hp : 0 < a) : Bt B (1 / a) := by
  have hn := num_pos hp
  have hb : Nb (a.den : Int) a.num := ⟨hn, by
    rw [den_abs, Nat.gcd_comm]
    exact a.reduced⟩
  have e := ofR_val (u := ((a.den : Int), a.num)) hb
  have e2 : val ((a.den : Int), a.num) = 1 / a := by
    show ((a.den : Int) : Rat) / (a.num : Rat) = 1 / a
    rw [num_eq]
    have hd := den_ne a
    generalize ((a.den : Int) : Rat) = x at *
    grind
  rw [e2] at e
  refine bt_of ?_
  rw [e]
  exact ⟨hb, by show ((a.den : Int)).natAbs < _; rw [den_abs]; exact h.2, h.1⟩
end G
end

end

section
set_option Elab.async false
set_option linter.all false
set_option maxRecDepth 100000
set_option maxHeartbeats 4000000
set_option exponentiation.threshold 10000
noncomputable section
namespace G
open PySem L2 TX
/-! sums over a ladder's rows -/
def rsum (f : Nat → Rat) (N : Nat) : Rat := ((List.range N).map f).sum
theorem rsum_zero (f : Nat → Rat) : rsum f 0 = 0 := rfl
theorem rsum_succ (f : Nat → Rat) (N : Nat) : rsum f (N + 1) = rsum f N + f N := by
  unfold rsum
  rw [List.range_succ, List.map_append, List.sum_append]
  simp [Rat.add_zero]
theorem rsum_congr {f g : Nat → Rat} : ∀ (N : Nat), (∀ k, k < N → f k = g k) → rsum f N = rsum g N
  | 0, _ => rfl
  | N + 1, h => by rw [rsum_succ, rsum_succ, rsum_congr N fun k hk => h k (by omega), h N (by omega)]
theorem rsum_div (f : Nat → Rat) (c : Rat) : ∀ N, rsum (fun k => f k / c) N = rsum f N / c
  | 0 => by rw [rsum_zero, rsum_zero, Rat.div_def, Rat.zero_mul]
  | N + 1 => by rw [rsum_succ, rsum_succ, rsum_div f c N]; grind
def num (n : Nat) (p : Rat) (i r : Nat) : Rat := wgt n p r * p ^ adf r i
/-- the first m of a row, told closed -/
theorem part {n i : Nat} {p : Rat} (hi : i ≤ n) : ∀ m, 1 ≤ m → m ≤ n → rsum (num n p i) m = if m ≤ i then p ^ (i - m + 1) else 1 + p - p ^ (m - i)
  | 0, h, _ => by omega
  | 1, _, hn => by
    rw [rsum_succ, rsum_zero, Rat.zero_add]
    have e : num n p i 0 = p ^ i := by
      unfold num wgt adf
      rw [if_pos (.inl rfl), Rat.one_mul]
      congr 1
      omega
    rw [e]
    by_cases h : 1 ≤ i
    · rw [if_pos h]; congr 1; omega
    · rw [if_neg h]
      have h0 : i = 0 := by omega
      subst h0
      have e1 : p ^ (1 - 0) = p := by rw [show 1 - 0 = 0 + 1 from rfl, Rat.pow_succ, Rat.pow_zero, Rat.one_mul]
      rw [e1, Rat.pow_zero]
      grind
  | m + 2, _, hn => by
    have ih := part (p := p) hi (m + 1) (by omega) (by omega)
    rw [rsum_succ, ih]
    have ew : wgt n p (m + 1) = 1 - p := by unfold wgt; rw [if_neg (by omega)]
    have e : num n p i (m + 1) = (1 - p) * p ^ adf (m + 1) i := by unfold num; rw [ew]
    rw [e]
    by_cases h1 : m + 2 ≤ i
    · rw [if_pos (by omega), if_pos h1]
      have a1 : adf (m + 1) i = (i - (m + 2)) + 1 := by unfold adf; omega
      have a2 : i - (m + 1) + 1 = (i - (m + 2)) + 1 + 1 := by omega
      rw [a1, a2, Rat.pow_succ, Rat.pow_succ]
      grind
    · by_cases h2 : m + 1 ≤ i
      · have h3 : i = m + 1 := by omega
        subst h3
        rw [if_pos (by omega), if_neg (by omega)]
        have a1 : adf (m + 1) (m + 1) = 0 := by unfold adf; omega
        have a2 : m + 1 - (m + 1) + 1 = 0 + 1 := by omega
        have a3 : m + 2 - (m + 1) = 0 + 1 := by omega
        rw [a1, a2, a3, Rat.pow_succ, Rat.pow_zero]
        grind
      · rw [if_neg (by omega), if_neg (by omega)]
        have a1 : adf (m + 1) i = m + 1 - i := by unfold adf; omega
        have a2 : m + 2 - i = (m + 1 - i) + 1 := by omega
        rw [a1, a2, Rat.pow_succ]
        grind
theorem whole {n i : Nat} {p : Rat} (hn : 0 < n) (hi : i ≤ n) : rsum (num n p i) (n + 1) = 1 + p := by
  rw [rsum_succ, part hi n hn (Nat.le_refl _)]
  have ew : wgt n p n = 1 := by unfold wgt; rw [if_pos (.inr rfl)]
  have e : num n p i n = p ^ adf n i := by unfold num; rw [ew, Rat.one_mul]
  rw [e]
  by_cases h : n ≤ i
  · have h1 : i = n := by omega
    subst h1
    rw [if_pos (Nat.le_refl _)]
    have a1 : adf i i = 0 := by unfold adf; omega
    have a2 : i - i + 1 = 0 + 1 := by omega
    rw [a1, a2, Rat.pow_succ, Rat.pow_zero]
    grind
  · rw [if_neg h]
    have a1 : adf n i = n - i := by unfold adf; omega
    rw [a1]
    grind
theorem stp_num {n : Nat} (hn : n ≠ 0) (p : Rat) (i r : Nat) : stp n p i r = num n p i r / (1 + p) := by unfold stp num; rw [if_neg hn]
theorem row_sum {B : Nat} {p : Rat} (h : Rt B p) {n i : Nat} (hi : i ≤ n) : ((List.range (n + 1)).map fun r => stp n p i r).sum = 1 := by
  show rsum (fun r => stp n p i r) (n + 1) = 1
  by_cases h0 : n = 0
  · subst h0
    rw [rsum_succ, rsum_zero]
    unfold stp
    rw [if_pos rfl]
    grind
  · rw [rsum_congr (g := fun r => num n p i r / (1 + p)) _ fun k _ => stp_num h0 p i k, rsum_div, whole (by omega) hi]
    have := one_p h
    grind
theorem pow_le_one {p : Rat} (h0 : 0 ≤ p) (h1 : p ≤ 1) : ∀ k : Nat, p ^ k ≤ 1
  | 0 => by rw [Rat.pow_zero]; exact Rat.le_refl
  | k + 1 => by
    rw [Rat.pow_succ]
    have ih := pow_le_one h0 h1 k
    have := Rat.mul_le_mul_of_nonneg_right ih h0
    grind
theorem pow_mono {p : Rat} (h0 : 0 ≤ p) (h1 : p ≤ 1) {a b : Nat} (h : a ≤ b) : p ^ b ≤ p ^ a := by
  obtain ⟨k, rfl⟩ : ∃ k, b = a + k := ⟨b - a, by omega⟩
  have e : p ^ (a + k) = p ^ a * p ^ k := by grind
  rw [e]
  have := Rat.mul_le_mul_of_nonneg_left (pow_le_one h0 h1 k) (Rat.pow_nonneg h0 : 0 ≤ p ^ a)
  grind
theorem wgt_nn {p : Rat} (h1 : p ≤ 1) (n r : Nat) : 0 ≤ wgt n p r := by
  unfold wgt
  split
  · decide
  · grind
theorem stp_nn {B : Nat} {p : Rat} (h : Rt B p) (n i r : Nat) : 0 ≤ stp n p i r := by
  unfold stp
  split
  · decide
  · rw [Rat.div_def]
    exact Rat.mul_nonneg (Rat.mul_nonneg (wgt_nn h.one n r) (Rat.pow_nonneg (Rat.le_of_lt h.pos))) (Rat.le_of_lt (Rat.inv_pos.mpr (one_p h)))
theorem stp_bt {p : Rat} (h : Rt 27 p) {n i r : Nat} (hn : n ≤ 10) (hi : i ≤ n) (hr : r ≤ n) : Bt 340 (stp n p i r) := by
  unfold stp
  split
  · exact bt_one.mono (by omega)
  · have hk : adf r i ≤ 10 := by unfold adf; omega
    have hz : 1 + p ≠ 0 := fun z => by have := one_p h; rw [z] at this; exact absurd this (by decide)
    refine (bt_by hz (bt_mul (wgt_bt (n := n) (r := r) h) (bt_pow h.bt (adf r i))) (bt_add bt_one h.bt)).mono ?_
    have := Nat.mul_le_mul_left 27 hk
    omega
theorem lad_len (n : Nat) (p : Rat) : (lad n p).length = n + 1 := by unfold lad; rw [List.length_map, List.length_range]
theorem sch_lad {p : Rat} (h : Rt 27 p) {n : Nat} (hn : n ≤ 10) : Sch 340 (n + 1) (lad n p) := by
  refine ⟨fun e => ?_, by rw [lad_len]; omega, fun r hr => ?_, fun r hr => ?_⟩
  · have := lad_len n p
    rw [e] at this
    simp at this
  · obtain ⟨i, hi, rfl⟩ := List.mem_map.mp hr
    have hi := List.mem_range.mp hi
    refine ⟨by rw [List.length_map, List.length_range]; omega, fun a ha => ?_, fun a ha => ?_, row_sum h (by omega), by decide, by rw [List.length_map, List.length_range]; omega⟩
    · obtain ⟨k, hk, rfl⟩ := List.mem_map.mp ha
      exact stp_nn h n i k
    · obtain ⟨k, hk, rfl⟩ := List.mem_map.mp ha
      have hk := List.mem_range.mp hk
      exact stp_bt h hn (by omega) (by omega)
  · obtain ⟨i, hi, rfl⟩ := List.mem_map.mp hr
    rw [List.length_map, List.length_range]
theorem lad_get {n i : Nat} {p : Rat} (hi : i ≤ n) : (lad n p)[i]? = some ((List.range (n + 1)).map fun r => stp n p i r) := by
  unfold lad
  rw [List.getElem?_map, List.getElem?_range (by omega)]
  rfl
end G
end

end

section
set_option Elab.async false
set_option linter.all false
set_option maxRecDepth 100000
set_option maxHeartbeats 4000000
set_option exponentiation.threshold 10000
noncomputable section
namespace G
open PySem L2 TX
/-! unladder -/
def rngBI (d e : D) (st : List Sl) : O (List D) := match d.smallInt?, e.smallInt? with
  | some lo, some hi => .ok (rngD lo (hi - lo).toNat) st
  | _, _ => .no
theorem iRngB_ap {a b : EvE} {st : List Sl} : iRngB a b st = (a st).bind fun z st1 => (b st1).bind fun y st2 => rngBI z.1 y.1 st2 := rfl
theorem rngBI_ok {m n : Int} {st : List Sl} (h : -100000 ≤ m ∧ m ≤ 100000) (h2 : -100000 ≤ n ∧ n ≤ 100000) : rngBI (.int m) (.int n) st = .ok (rngD m (n - m).toNat) st := by
  have e : D.smallInt? (.int m) = some m := if_pos h
  have e2 : D.smallInt? (.int n) = some n := if_pos h2
  unfold rngBI; rw [e, e2]
theorem getD_set {L : List Rat} {i k : Nat} {x : Rat} (hk : k < L.length) : (L.set i x).getD k 0 = if k = i then x else L.getD k 0 := by
  rw [List.getD_eq_getElem?_getD, List.getElem?_set, List.getD_eq_getElem?_getD]
  by_cases h : k = i
  · subst h; rw [if_pos rfl, if_pos hk, if_pos rfl]; rfl
  · rw [if_neg (fun z => h z.symm), if_neg h]
theorem range_getD' (L : List Rat) : (List.range L.length).map (fun k => L.getD k 0) = L := by
  apply List.ext_getElem
  · simp
  · intro i h1 h2
    rw [List.getElem_map, List.getElem_range, List.getD_eq_getElem?_getD, List.getElem?_eq_getElem h2]
    rfl
theorem fold_set (iv : Nat → Rat) : ∀ (L : List Nat) (acc : List Rat), L.foldl (fun acc i => acc.set i (iv i)) acc = (List.range acc.length).map fun k => if k ∈ L then iv k else acc.getD k 0
  | [], acc => by
    refine (range_getD' acc).symm.trans (List.map_congr_left fun k _ => ?_)
    rw [if_neg List.not_mem_nil]
  | i :: L, acc => by
    rw [List.foldl_cons, fold_set iv L, List.length_set]
    refine List.map_congr_left fun k hk => ?_
    have hk := List.mem_range.mp hk
    by_cases h : k ∈ L
    · rw [if_pos h, if_pos (List.mem_cons_of_mem _ h)]
    · rw [if_neg h, getD_set hk]
      by_cases h2 : k = i
      · subst h2; rw [if_pos rfl, if_pos List.mem_cons_self]
      · rw [if_neg h2, if_neg (fun z => by rcases List.mem_cons.mp z with z | z; exact h2 z; exact h z)]
def mid (n : Nat) (p : Rat) (r : Nat) : Rat := if r = 0 ∨ r = n then 1 else 1 + p * p
def iwt (n : Nat) (p : Rat) (r : Nat) : Rat := if r = 0 ∨ r = n then 1 - p else (1 - p) * (1 - p)
def ivc (n : Nat) (p : Rat) (r k : Nat) : Rat := (if k = r then mid n p r else 0 - p) / iwt n p r
def inv (n : Nat) (p : Rat) (r k : Nat) : Rat := if n = 0 then 1 else if adf k r ≤ 1 then ivc n p r k else 0
def inm (n : Nat) (p : Rat) : Mx := (List.range (n + 1)).map fun r => (List.range (n + 1)).map fun k => inv n p r k
theorem fMul_rep {d : D} {n : Nat} (hn : n ≤ 100) : fMul (.lst [d]) (.int ((n : Int) + 1)) = some (.lst (List.replicate (n + 1) d), true) := by
  have e : (n : Int) + 1 = ((n + 1 : Nat) : Int) := by omega
  rw [e]
  generalize hk : n + 1 = k
  have hk : k ≤ 101 := by omega
  clear e hn
  show fRep (.lst [d]) (.int (k : Int)) = _
  unfold fRep
  simp only [D.smallInt?]
  simp
  omega
theorem bt_mid {p : Rat} (h : Bt 27 p) (n r : Nat) : Bt 56 (mid n p r) := by
  unfold mid
  split
  · exact bt_one.mono (by decide)
  · exact (bt_add bt_one (bt_mul h h)).mono (by decide)
theorem bt_iwt {p : Rat} (h : Bt 27 p) (n r : Nat) : Bt 58 (iwt n p r) := by
  unfold iwt
  split
  · exact (bt_sub bt_one h).mono (by decide)
  · exact (bt_mul (bt_sub bt_one h) (bt_sub bt_one h)).mono (by decide)
theorem iwt_ne {p : Rat} (h : p < 1) (n r : Nat) : iwt n p r ≠ 0 := by
  have h1 : 1 - p ≠ 0 := by grind
  unfold iwt
  split
  · exact h1
  · intro z
    rcases Rat.mul_eq_zero.mp z with z | z <;> exact h1 z
theorem bt_ivc {p : Rat} (h : Bt 27 p) (h1 : p < 1) (n r k : Nat) : Bt 114 (ivc n p r k) := by
  unfold ivc
  refine (bt_by (B := 56) (C := 58) (iwt_ne h1 n r) ?_ (bt_iwt h n r)).mono (by decide)
  split
  · exact bt_mid h n r
  · exact (bt_sub bt_zero h).mono (by decide)
end G
end

end

section
set_option Elab.async false
set_option linter.all false
set_option maxRecDepth 100000
set_option maxHeartbeats 4000000
set_option exponentiation.threshold 10000
noncomputable section
namespace G
open PySem L2 TX
theorem mid_end {n r : Nat} {p : Rat} (h : r = 0 ∨ r = n) : mid n p r = 1 := by unfold mid; rw [if_pos h]
theorem mid_in {n r : Nat} {p : Rat} (h : ¬ (r = 0 ∨ r = n)) : mid n p r = 1 + p * p := by unfold mid; rw [if_neg h]
theorem iwt_end {n r : Nat} {p : Rat} (h : r = 0 ∨ r = n) : iwt n p r = 1 - p := by unfold iwt; rw [if_pos h]
theorem iwt_in {n r : Nat} {p : Rat} (h : ¬ (r = 0 ∨ r = n)) : iwt n p r = (1 - p) * (1 - p) := by unfold iwt; rw [if_neg h]
abbrev irBody : EvS := sItem 7 (eVar 8) (eCallP (aCons (eIf (tOf (eBinV (fEq true) 8 (eVar 2))) (eVar 5) (eCallP (aCons (eC d_ZERO) (aCons (eVar 1) (aNil))) id f_minus)) (aCons (eVar 6) (aNil))) id f_by)
/-- the rows that are written -/
def nbh (n r : Nat) : List Nat := (List.range (min n (r + 1) + 1 - (r - 1))).map fun k => (r - 1) + k
theorem mem_nbh {n r k : Nat} (hr : r ≤ n) : k ∈ nbh n r ↔ k ≤ n ∧ adf k r ≤ 1 := by
  unfold nbh
  rw [List.mem_map]
  constructor
  · rintro ⟨j, hj, rfl⟩
    have := List.mem_range.mp hj
    unfold adf
    omega
  · rintro ⟨h1, h2⟩
    unfold adf at h2
    exact ⟨k - (r - 1), List.mem_range.mpr (by omega), by omega⟩
theorem n_inv_row {p : Rat} (h : Rt 27 p) (h1 : p < 1) {n r : Nat} (h0 : n ≠ 0) (hn : n ≤ 10) (hr : r ≤ n) : f__inverse_row [.pu (.int (n : Int)), .pu (Nr p), .pu (.int (r : Int))] = .ok (Rr ((List.range (n + 1)).map fun k => inv n p r k), false) [.pu (.int (n : Int)), .pu (Nr p), .pu (.int (r : Int))] := by
  have n1 : d_ONE = Nr 1 := rfl
  have n0 : d_ZERO = Nr 0 := rfl
  have e1 := n_minus bt_one h.bt (by omega)
  have e2 := fIn_two (r := r) (n := n)
  have e3 := n_times h.bt h.bt (by omega)
  have e4 := n_plus bt_one (bt_mul h.bt h.bt) (by omega)
  have e5 := n_times (bt_sub bt_one h.bt) (bt_sub bt_one h.bt) (by omega)
  have e6 := fMul_rep (d := Nr 0) (n := n) (by omega)
  have e7 := n_minus bt_zero h.bt (by omega)
  have rp : List.replicate (n + 1) (Nr 0) = (List.replicate (n + 1) (0 : Rat)).map Nr := by rw [List.map_replicate]
  have loop : ∀ b, ∃ x8, sFor (putN [] 8) irBody ((nbh n r).map fun (k : Nat) => D.int (k : Int)) [.pu (.int (n : Int)), .pu (Nr p), .pu (.int (r : Int)), .pu (Nr (1 - p)), .pu (.bl b), .pu (Nr (mid n p r)), .pu (Nr (iwt n p r)), .ow ((List.replicate (n + 1) (0 : Rat)).map Nr), .un] = .nx [.pu (.int (n : Int)), .pu (Nr p), .pu (.int (r : Int)), .pu (Nr (1 - p)), .pu (.bl b), .pu (Nr (mid n p r)), .pu (Nr (iwt n p r)), .ow (((List.range (n + 1)).map fun k => inv n p r k).map Nr), x8] := fun b => by
    obtain ⟨s', h2, _, x8, rfl⟩ := sFor_gen (put := putN [] 8) (body := irBody) (fun (k : Nat) => D.int (k : Int)) (fun acc i => acc.set i (ivc n p r i))
      (fun (acc : List Rat) st => acc.length = n + 1 ∧ ∃ x8, st = [.pu (.int (n : Int)), .pu (Nr p), .pu (.int (r : Int)), .pu (Nr (1 - p)), .pu (.bl b), .pu (Nr (mid n p r)), .pu (Nr (iwt n p r)), .ow (acc.map Nr), x8]) (nbh n r) (by
        rintro i hi acc st ⟨hl, x8, rfl⟩
        have hi := (mem_nbh hr).mp hi
        have hx : ixN (acc.map Nr).length (i : Int) = some i := by rw [List.length_map]; exact ixN_of (by omega) (by omega)
        have hm : (acc.map Nr).set i (Nr (ivc n p r i)) = (acc.set i (ivc n p r i)).map Nr := by rw [List.map_set]
        refine ⟨[.pu (.int (n : Int)), .pu (Nr p), .pu (.int (r : Int)), .pu (Nr (1 - p)), .pu (.bl b), .pu (Nr (mid n p r)), .pu (Nr (iwt n p r)), .ow (acc.map Nr), .pu (.int (i : Int))], [.pu (.int (n : Int)), .pu (Nr p), .pu (.int (r : Int)), .pu (Nr (1 - p)), .pu (.bl b), .pu (Nr (mid n p r)), .pu (Nr (iwt n p r)), .ow ((acc.set i (ivc n p r i)).map Nr), .pu (.int (i : Int))], rfl, ?_, by rw [List.length_set]; exact hl, _, rfl⟩
        by_cases hc : i = r
        · have c1 : decide ((i : Int) = (r : Int)) = true := decide_eq_true (by omega)
          have b1 := n_by (bt_mid h.bt n r) (bt_iwt h.bt n r) (by decide) (iwt_ne h1 n r)
          have b2 : ivc n p r i = mid n p r / iwt n p r := by unfold ivc; rw [if_pos hc]
          rw [b2] at hm ⊢
          clear h h1 h0 hn hr e1 e2 e3 e4 e5 e6 rp hl hi hc b2 n1
          unfold irBody
          walk_at "rsh"
        · have c1 : decide ((i : Int) = (r : Int)) = false := decide_eq_false (by omega)
          have b1 := n_by (bt_sub bt_zero h.bt) (bt_iwt h.bt n r) (by decide) (iwt_ne h1 n r)
          have b2 : ivc n p r i = (0 - p) / iwt n p r := by unfold ivc; rw [if_neg hc]
          rw [b2] at hm ⊢
          clear h h1 h0 hn hr e1 e2 e3 e4 e5 e6 rp hl hi hc b2 n1
          unfold irBody
          walk_at "rsh") (List.replicate (n + 1) 0) [.pu (.int (n : Int)), .pu (Nr p), .pu (.int (r : Int)), .pu (Nr (1 - p)), .pu (.bl b), .pu (Nr (mid n p r)), .pu (Nr (iwt n p r)), .ow ((List.replicate (n + 1) (0 : Rat)).map Nr), .un] ⟨List.length_replicate, _, rfl⟩
    refine ⟨x8, ?_⟩
    rw [h2, fold_set]
    rw [List.length_replicate]
    have e : ((List.range (n + 1)).map fun k => if k ∈ nbh n r then ivc n p r k else (List.replicate (n + 1) (0 : Rat)).getD k 0) = (List.range (n + 1)).map fun k => inv n p r k := List.map_congr_left fun k hk => by
      have hk := List.mem_range.mp hk
      unfold inv
      rw [if_neg h0]
      by_cases hc : adf k r ≤ 1
      · rw [if_pos hc, if_pos ((mem_nbh hr).mpr ⟨by omega, hc⟩)]
      · rw [if_neg hc, if_neg fun z => hc ((mem_nbh hr).mp z).2]
        rw [List.getD_eq_getElem?_getD, List.getElem?_replicate, if_pos hk]
        rfl
    rw [e]
  have rg : ∀ st, rngBI (.int (if (r : Int) - 1 > 0 then (r : Int) - 1 else 0)) (.int ((if (r : Int) + 1 < (n : Int) then (r : Int) + 1 else (n : Int)) + 1)) st = .ok ((nbh n r).map fun (k : Nat) => D.int (k : Int)) st := fun st => by
    have a1 : (if (r : Int) - 1 > 0 then (r : Int) - 1 else 0) = ((r - 1 : Nat) : Int) := by split <;> omega
    have a2 : ((if (r : Int) + 1 < (n : Int) then (r : Int) + 1 else (n : Int)) + 1) = ((min n (r + 1) + 1 : Nat) : Int) := by split <;> omega
    rw [a1, a2, rngBI_ok (by omega) (by omega)]
    have a3 : (((min n (r + 1) + 1 : Nat) : Int) - ((r - 1 : Nat) : Int)).toNat = min n (r + 1) + 1 - (r - 1) := by omega
    rw [a3]
    unfold rngD nbh
    rw [List.map_map]
    congr 1
  by_cases hw : r = 0 ∨ r = n
  · obtain ⟨x8, lp⟩ := loop true
    have w2 : decide (r = 0 ∨ r = n) = true := decide_eq_true hw
    rw [w2] at e2
    rw [mid_end hw, iwt_end hw] at lp
    clear h h1 h0 hn hr loop w2 hw
    unfold f__inverse_row r__inverse_row
    unfold irBody at lp
    rw [n0] at lp
    rw [rp] at e6
    clear rp
    generalize List.replicate (n + 1) (0 : Rat) = Z at e6 lp
    have rb := @iRngB_ap
    walk_at "rsh"
  · obtain ⟨x8, lp⟩ := loop false
    have w2 : decide (r = 0 ∨ r = n) = false := decide_eq_false hw
    rw [w2] at e2
    rw [mid_in hw, iwt_in hw] at lp
    clear h h1 h0 hn hr loop w2 hw
    unfold f__inverse_row r__inverse_row
    unfold irBody at lp
    rw [n0] at lp
    rw [rp] at e6
    clear rp
    generalize List.replicate (n + 1) (0 : Rat) = Z at e6 lp
    have rb := @iRngB_ap
    walk_at "rsh"
end G
end

end

section
set_option Elab.async false
set_option linter.all false
set_option maxRecDepth 100000
set_option maxHeartbeats 4000000
set_option exponentiation.threshold 10000
noncomputable section
namespace G
open PySem L2 TX
theorem fEq_one_nr {b : Rat} : fEq true (Nr b) d_ONE = some (.bl (decide (b = 1)), false) := by
  have e : SeqAt.shaped (Nr b).toP = true ∧ SeqAt.shaped d_ONE.toP = true := ⟨rfl, rfl⟩
  have e2 : PyData.eqv (Nr b).toP d_ONE.toP = decide (b = 1) := by
    show PyData.eqv (.tuple [.int b.num, .int b.den]) (.tuple [.int 1, .int 1]) = _
    by_cases h : b = 1
    · subst h; simp [PyData.eqv, PyData.eqvAll]
    · have hh : ¬ (b.num = 1 ∧ (b.den : Int) = 1) := fun ⟨h1, h2⟩ => h (Rat.ext h1 (by have : (1 : Rat).den = 1 := rfl; omega))
      rw [decide_eq_false h]
      by_cases h1 : b.num = 1
      · have h2 : ¬ (b.den : Int) = 1 := fun z => hh ⟨h1, z⟩
        simp [PyData.eqv, PyData.eqvAll, h1]
        omega
      · simp [PyData.eqv, PyData.eqvAll, h1]
  unfold fEq
  rw [e.1, e.2, e2]
  cases decide (b = 1) <;> rfl
theorem n_check_below {B : Nat} {p : Rat} (h : Rt B p) {n : Nat} (h1 : n = 0 ∨ p < 1) : f_check_ratio_below_one [.pu (.int (n : Int)), .pu (Nr p)] = .ok (.non, false) [.pu (.int (n : Int)), .pu (Nr p)] := by
  have e1 := n_check_ratio h
  have e2 := fEq_one_nr (b := p)
  by_cases h2 : p = 1
  · have h3 : n = 0 := h1.resolve_right fun z => by rw [h2] at z; exact absurd z (by decide)
    have c : decide ((0 : Int) < (n : Int)) = false := decide_eq_false (by omega)
    rw [decide_eq_true h2] at e2
    clear h h1 h2 h3
    unfold f_check_ratio_below_one r_check_ratio_below_one
    walk_at "rsh"
  · rw [decide_eq_false h2] at e2
    clear h h1 h2
    unfold f_check_ratio_below_one r_check_ratio_below_one
    walk_at "rsh"
theorem n_unladder {p : Rat} (h : Rt 27 p) {n : Nat} (h1 : n = 0 ∨ p < 1) (hn : n ≤ 10) : f_unladder [.pu (.int (n : Int)), .pu (Nr p)] = .ok (Mr (inm n p), false) [.pu (.int (n : Int)), .pu (Nr p)] := by
  have c1 := n_check_count n
  have c2 := n_check_below h h1
  by_cases h0 : n = 0
  · have e1 : decide ((n : Int) = 0) = true := decide_eq_true (by omega)
    have e2 : Mr (inm n p) = .tup [.tup [d_ONE]] := by subst h0; rfl
    rw [e2]
    clear h h0 hn e2 h1
    unfold f_unladder r_unladder
    walk_at "rsh"
  · have e0 : decide ((n : Int) = 0) = false := decide_eq_false (by omega)
    have hp := h1.resolve_left h0
    have e1 : eLc [2] (iRng (eBin fAdd (eVar 0) (eC (.int 1)))) (putN [] 2) (tTrue) (eCallP (aCons (eVar 0) (aCons (eVar 1) (aCons (eVar 2) (aNil)))) id f__inverse_row) [.pu (.int (n : Int)), .pu (Nr p), .un] = .ok (.lst ((List.range (n + 1)).map fun i => Rr ((List.range (n + 1)).map fun r => inv n p i r)), true) [.pu (.int (n : Int)), .pu (Nr p), .un] :=
      eLc_map (fun (k : Nat) => D.int (k : Int)) (fun i => Rr ((List.range (n + 1)).map fun r => inv n p i r)) (fun r => [.pu (.int (n : Int)), .pu (Nr p), .pu (.int (r : Int))]) (List.range (n + 1)) (by have := fun st => rng_n1 (st := st) (n := n) (by omega); clear h hn h1 h0; walk_at "rsh") (by rw [List.length_range]; omega) fun i hi => ⟨false, by
        have := n_inv_row h hp h0 hn (r := i) (by have := List.mem_range.mp hi; omega)
        clear h hi hn c1 c2 h0 h1
        walk_at "rsh"⟩
    have e2 : ((List.range (n + 1)).map fun i => Rr ((List.range (n + 1)).map fun r => inv n p i r)) = (inm n p).map Rr := by unfold inm; rw [List.map_map]; rfl
    rw [e2] at e1
    clear h hn e2 h1 h0 hp
    unfold f_unladder r_unladder
    walk_at "rsh"
/-! the law's product: cells of 0 are left out -/
def nzD (a b : Rat) : Bool := decide (a ≠ 0) && decide (b ≠ 0)
theorem nz_nr (a : Rat) : fEq false (.int a.num) (.int 0) = some (.bl (!decide (a = 0)), false) := by
  rw [fNeI_r]
  have : decide (a.num = 0) = decide (a = 0) := decide_eq_decide.mpr Rat.num_eq_zero
  rw [this]
abbrev lpBody : EvS := sIf (tAnd' (tOf (eBin (fEq false) (eBin fIx (eIxV 3 (eVar 7)) (eC (.int 0))) (eC (.int 0)))) (tOf (eBin (fEq false) (eBin fIx (eBin fIx (eIxV 1 (eVar 7)) (eVar 5)) (eC (.int 0))) (eC (.int 0))))) (sSet [] 6 (eCallP (aCons (eVar 6) (aCons (eCallP (aCons (eIxV 3 (eVar 7)) (aCons (eBin fIx (eIxV 1 (eVar 7)) (eVar 5)) (aNil))) id f__law_times) (aNil))) id f__law_plus)) (sSkip)
section
variable {B C w v : Nat} {P Q : Mx} {r : List Rat}
theorem ix_rr {L : List Rat} {k : Nat} (h : k < L.length) : fIx (Rr L) (.int (k : Int)) = some (Nr (L.getD k 0), false) := by
  rw [List.getD_eq_getElem?_getD, List.getElem?_eq_getElem h]
  exact ix_tm h
theorem ix_mr {L : Mx} {k : Nat} (h : k < L.length) : fIx (Mr L) (.int (k : Int)) = some (Rr (L.getD k []), false) := by
  rw [List.getD_eq_getElem?_getD, List.getElem?_eq_getElem h]
  exact ix_tm h
theorem getD_mem {α : Type} {L : List α} {k : Nat} {d : α} (h : k < L.length) : L.getD k d ∈ L := by
  rw [List.getD_eq_getElem?_getD, List.getElem?_eq_getElem h]
  exact List.getElem_mem h
theorem lp_cell (hr : ∀ a ∈ r, Bt B a) (hQ : ∀ q ∈ Q, ∀ a ∈ q, Bt C a) (hw : r.length = Q.length) (hv : ∀ q ∈ Q, q.length = v) {s : Nat} (hs : s < v) (hb : 1 + (B + C + 1) * Q.length ≤ 7000) {x4 : Sl} {ds : List D} {p : D} (h4 : x4 = .ow ds) {acc : List D} {x6 x7 : Sl} :
    ∃ y7, sFor (putN [] 7) lpBody ((List.range Q.length).map fun (k : Nat) => D.int (k : Int)) [.pu p, .pu (Mr Q), .ow acc, .pu (Rr r), x4, .pu (.int (s : Int)), .pu (Nr 0), x7] = .nx [.pu p, .pu (Mr Q), .ow acc, .pu (Rr r), x4, .pu (.int (s : Int)), .pu (Nr (((List.range Q.length).map fun k => r.getD k 0 * (Q.getD k []).getD s 0).sum)), y7] := by
  subst h4
  have key : ∀ (L : List Nat) (t : Rat) (K : Nat) (x7 : Sl), (∀ k ∈ L, k < Q.length) → Bt K t → K + (B + C + 1) * L.length ≤ 7000 → ∃ y7, sFor (putN [] 7) lpBody (L.map fun (k : Nat) => D.int (k : Int)) [.pu p, .pu (Mr Q), .ow acc, .pu (Rr r), .ow ds, .pu (.int (s : Int)), .pu (Nr t), x7] = .nx [.pu p, .pu (Mr Q), .ow acc, .pu (Rr r), .ow ds, .pu (.int (s : Int)), .pu (Nr (t + (L.map fun k => r.getD k 0 * (Q.getD k []).getD s 0).sum)), y7] := by
    intro L
    induction L with
    | nil => intro t K x7 _ _ _; exact ⟨x7, by simp only [List.map_nil, List.sum_nil, Rat.add_zero]; rfl⟩
    | cons k L ih =>
      intro t K x7 hL ht hk
      have hkl := hL k List.mem_cons_self
      rw [List.length_cons, Nat.mul_succ] at hk
      have hq := getD_mem (d := []) hkl
      have i1 := ix_rr (L := r) (k := k) (by omega)
      have i2 := ix_mr hkl
      have i3 := ix_rr (L := Q.getD k []) (k := s) (by rw [hv _ hq]; exact hs)
      have b1 := hr _ (getD_mem (L := r) (k := k) (d := 0) (by omega))
      have b2 := hQ _ hq _ (getD_mem (L := Q.getD k []) (k := s) (d := 0) (by rw [hv _ hq]; exact hs))
      generalize hq1 : r.getD k 0 = a at *
      generalize hq2 : (Q.getD k []) = q at *
      generalize hq3 : q.getD s 0 = b at *
      have z1 := nz_nr a
      have z2 := nz_nr b
      have e1 := l_times b1 b2 (by omega)
      have e2 := l_plus ht (bt_mul b1 b2) (by omega)
      by_cases h0 : a = 0 ∨ b = 0
      · obtain ⟨y7, hy⟩ := ih t K (.pu (.int (k : Int))) (fun j hj => hL j (List.mem_cons_of_mem _ hj)) ht (by omega)
        refine ⟨y7, ?_⟩
        have e3 : a * b = 0 := by rcases h0 with h | h <;> rw [h] <;> grind
        rw [List.map_cons, List.map_cons, List.sum_cons, hq1, hq2, hq3, e3, Rat.zero_add]
        refine sFor_cons (st1 := [.pu p, .pu (Mr Q), .ow acc, .pu (Rr r), .ow ds, .pu (.int (s : Int)), .pu (Nr t), .pu (.int (k : Int))]) rfl ?_ hy
        by_cases h1 : a = 0
        · rw [decide_eq_true h1] at z1
          clear hy ih hL ht hk hkl hq b1 b2 e1 e2 h0 e3 h1 hr hQ hv hs hb hw z2
          unfold lpBody
          walk_at "rsh"
        · have h2 := h0.resolve_left h1
          rw [decide_eq_false h1] at z1
          rw [decide_eq_true h2] at z2
          clear hy ih hL ht hk hkl hq b1 b2 e1 e2 h0 e3 h1 hr hQ hv hs hb hw h2
          unfold lpBody
          walk_at "rsh"
      · have h1 : a ≠ 0 := fun z => h0 (.inl z)
        have h2 : b ≠ 0 := fun z => h0 (.inr z)
        obtain ⟨y7, hy⟩ := ih (t + a * b) (K + (B + C) + 1) (.pu (.int (k : Int))) (fun j hj => hL j (List.mem_cons_of_mem _ hj)) (bt_add ht (bt_mul b1 b2)) (by omega)
        refine ⟨y7, ?_⟩
        rw [List.map_cons, List.map_cons, List.sum_cons, hq1, hq2, hq3, ← Rat.add_assoc]
        refine sFor_cons (st1 := [.pu p, .pu (Mr Q), .ow acc, .pu (Rr r), .ow ds, .pu (.int (s : Int)), .pu (Nr t), .pu (.int (k : Int))]) rfl ?_ hy
        rw [decide_eq_false h1] at z1
        rw [decide_eq_false h2] at z2
        clear hy ih hL ht hk hkl hq b1 b2 h0 h1 hr hQ hv hs hb hw h2
        unfold lpBody
        walk_at "rsh"
  obtain ⟨y7, hy⟩ := key (List.range Q.length) 0 1 x7 (fun k hk => List.mem_range.mp hk) bt_zero (by rw [List.length_range]; exact hb)
  rw [Rat.zero_add] at hy
  exact ⟨y7, hy⟩
end
end G
end

end

section
set_option Elab.async false
set_option linter.all false
set_option maxRecDepth 100000
set_option maxHeartbeats 4000000
set_option exponentiation.threshold 10000
noncomputable section
namespace G
open PySem L2 TX
/-- a cell of the product -/
def pc (Q : Mx) (r : List Rat) (s : Nat) : Rat := rsum (fun k => r.getD k 0 * (Q.getD k []).getD s 0) Q.length
def prm (P Q : Mx) (v : Nat) : Mx := P.map fun r => (List.range v).map (pc Q r)
abbrev lpMid : EvS := sSeq (sSet [] 6 (eTup (aCons (eC (.int 0)) (aCons (eC (.int 1)) (aNil))))) (sSeq (sForI (putN [] 7) (iRng (eV1 fLen 3)) lpBody) (sApp 4 (eVar 6)))
section
variable {B C v : Nat} {P Q : Mx} {r : List Rat}
theorem lp_mid (hr : ∀ a ∈ r, Bt B a) (hQ : ∀ q ∈ Q, ∀ a ∈ q, Bt C a) (hw : r.length = Q.length) (hl : Q.length ≤ 100) (hv : ∀ q ∈ Q, q.length = v) (hv1 : v ≤ 100) (hb : 1 + (B + C + 1) * Q.length ≤ 7000) {p : D} (acc0 : List D) (x5 x6 x7 : Sl) :
    ∃ y5 y6 y7, sFor (putN [] 5) lpMid ((List.range v).map fun (k : Nat) => D.int (k : Int)) [.pu p, .pu (Mr Q), .ow acc0, .pu (Rr r), .ow [], x5, x6, x7] = .nx [.pu p, .pu (Mr Q), .ow acc0, .pu (Rr r), .ow (((List.range v).map (pc Q r)).map Nr), y5, y6, y7] := by
  obtain ⟨s', h1, y5, y6, y7, _, rfl⟩ := sFor_rem (put := putN [] 5) (body := lpMid) (fun (k : Nat) => D.int (k : Int)) (fun acc s => acc ++ [pc Q r s])
    (fun acc rest st => ∃ x5 x6 x7, acc.length + rest.length ≤ v ∧ st = [.pu p, .pu (Mr Q), .ow acc0, .pu (Rr r), .ow (acc.map Nr), x5, x6, x7]) (List.range v) (by
      rintro s hs rest acc st ⟨x5, x6, x7, hle, rfl⟩
      have hs := List.mem_range.mp hs
      rw [List.length_cons] at hle
      obtain ⟨z7, hz⟩ := lp_cell (p := p) hr hQ hw hv hs hb (x4 := .ow (acc.map Nr)) (acc := acc0) rfl (x7 := x7) (x6 := x6)
      refine ⟨[.pu p, .pu (Mr Q), .ow acc0, .pu (Rr r), .ow (acc.map Nr), .pu (.int (s : Int)), x6, x7], [.pu p, .pu (Mr Q), .ow acc0, .pu (Rr r), .ow ((acc ++ [pc Q r s]).map Nr), .pu (.int (s : Int)), .pu (Nr (pc Q r s)), z7], rfl, ?_, _, _, _, by rw [List.length_append, List.length_singleton]; omega, rfl⟩
      have e1 : rngI (.int ((r.map Nr).length : Int)) [.pu p, .pu (Mr Q), .ow acc0, .pu (Rr r), .ow (acc.map Nr), .pu (.int (s : Int)), .pu (Nr 0), x7] = .ok ((List.range Q.length).map fun (k : Nat) => D.int (k : Int)) [.pu p, .pu (Mr Q), .ow acc0, .pu (Rr r), .ow (acc.map Nr), .pu (.int (s : Int)), .pu (Nr 0), x7] := by
        rw [List.length_map, hw, rngI_ok (by omega), Int.toNat_natCast, rng0]
      have e0 : D.tup [.int 0, .int 1] = Nr 0 := rfl
      have e2 : (acc.map Nr).length < 100000 := by rw [List.length_map]; omega
      have e3 : acc.map Nr ++ [Nr (pc Q r s)] = (acc ++ [pc Q r s]).map Nr := by rw [List.map_append]; rfl
      have e4 : ((List.range Q.length).map fun k => r.getD k 0 * (Q.getD k []).getD s 0).sum = pc Q r s := rfl
      rw [e4] at hz
      clear hle hs hQ hr hb hw hv hv1 hl e4
      unfold lpMid
      walk_at "rsh") [] [.pu p, .pu (Mr Q), .ow acc0, .pu (Rr r), .ow [], x5, x6, x7] ⟨x5, x6, x7, by rw [List.length_range]; simp, rfl⟩
  have e : ∀ (L : List Nat) (acc : List Rat), L.foldl (fun acc s => acc ++ [pc Q r s]) acc = acc ++ L.map (pc Q r) := by
    intro L
    induction L with
    | nil => intro acc; simp
    | cons s L ih => intro acc; rw [List.foldl_cons, ih, List.append_assoc]; rfl
  rw [e, List.nil_append] at h1
  exact ⟨y5, y6, y7, h1⟩
theorem l_product (hP : ∀ r ∈ P, r.length = Q.length ∧ ∀ a ∈ r, Bt B a) (hp : P.length ≤ 100) (hQ : ∀ q ∈ Q, ∀ a ∈ q, Bt C a) (hne : Q ≠ []) (hl : Q.length ≤ 100) (hv : ∀ q ∈ Q, q.length = v) (hv1 : v ≤ 100) (hb : 1 + (B + C + 1) * Q.length ≤ 7000) : f__law_product [.pu (Mr P), .pu (Mr Q)] = .ok (Mr (prm P Q v), false) [.pu (Mr P), .pu (Mr Q)] := by
  obtain ⟨q0, q, eQ⟩ := List.exists_cons_of_ne_nil hne
  have e3 : fIx (Mr Q) (.int 0) = some (Rr q0, false) := by rw [eQ]; exact ix_t0
  have w2 := hv q0 (by rw [eQ]; exact List.mem_cons_self)
  obtain ⟨s', h1, x3, x4, x5, x6, x7, _, rfl⟩ := sFor_rem (put := putN [] 3) (body := sSeq (sSet [] 4 (eLst (aNil))) (sSeq (sForI (putN [] 5) (iRng (eUn fLen (eIxV 1 (eC (.int 0))))) lpMid) (sApp 2 (eV1 fTuple 4)))) Rr (fun acc r => acc ++ [(List.range v).map (pc Q r)])
    (fun acc rest st => ∃ x3 x4 x5 x6 x7, acc.length + rest.length ≤ 100 ∧ st = [.pu (Mr P), .pu (Mr Q), .ow (acc.map Rr), x3, x4, x5, x6, x7]) P (by
      rintro r hr rest acc st ⟨x3, x4, x5, x6, x7, hle, rfl⟩
      rw [List.length_cons] at hle
      obtain ⟨y5, y6, y7, hz⟩ := lp_mid (p := Mr P) (hP r hr).2 hQ (hP r hr).1 hl hv hv1 hb (acc.map Rr) x5 x6 x7
      refine ⟨[.pu (Mr P), .pu (Mr Q), .ow (acc.map Rr), .pu (Rr r), x4, x5, x6, x7], [.pu (Mr P), .pu (Mr Q), .ow ((acc ++ [(List.range v).map (pc Q r)]).map Rr), .pu (Rr r), .ow (((List.range v).map (pc Q r)).map Nr), y5, y6, y7], rfl, ?_, _, _, _, _, _, by rw [List.length_append, List.length_singleton]; omega, rfl⟩
      have e1 : rngI (.int ((q0.map Nr).length : Int)) [.pu (Mr P), .pu (Mr Q), .ow (acc.map Rr), .pu (Rr r), .ow [], x5, x6, x7] = .ok ((List.range v).map fun (k : Nat) => D.int (k : Int)) [.pu (Mr P), .pu (Mr Q), .ow (acc.map Rr), .pu (Rr r), .ow [], x5, x6, x7] := by
        rw [List.length_map, w2, rngI_ok (by omega), Int.toNat_natCast, rng0]
      have e2 : (acc.map Rr).length < 100000 := by rw [List.length_map]; omega
      have e4 : acc.map Rr ++ [Rr ((List.range v).map (pc Q r))] = (acc ++ [(List.range v).map (pc Q r)]).map Rr := by rw [List.map_append]; rfl
      clear hle hP hQ hl hv hv1 hb hne eQ w2 hr hp
      walk_at "rsh") [] [.pu (Mr P), .pu (Mr Q), .ow [], .un, .un, .un, .un, .un] ⟨_, _, _, _, _, by rw [List.length_nil]; omega, rfl⟩
  have e : ∀ (L : Mx) (acc : Mx), L.foldl (fun acc r => acc ++ [(List.range v).map (pc Q r)]) acc = acc ++ L.map fun r => (List.range v).map (pc Q r) := by
    intro L
    induction L with
    | nil => intro acc; simp
    | cons s L ih => intro acc; rw [List.foldl_cons, ih, List.append_assoc]; rfl
  rw [e, List.nil_append] at h1
  clear hP hQ hl hv hv1 hb hne eQ w2 hp e e3
  unfold f__law_product r__law_product prm
  walk_at "rsh"
end
/-! the inverse undoes -/
def idm (n : Nat) : Mx := (List.range (n + 1)).map fun i => (List.range (n + 1)).map fun s => if i = s then (1 : Rat) else 0
theorem fun_getD {n k : Nat} (f : Nat → Rat) (h : k < n) : ((List.range n).map f).getD k 0 = f k := by
  rw [List.getD_eq_getElem?_getD, List.getElem?_map, List.getElem?_range h]
  rfl
theorem fun_getDM {n k : Nat} (f : Nat → List Rat) (h : k < n) : ((List.range n).map f).getD k [] = f k := by
  rw [List.getD_eq_getElem?_getD, List.getElem?_map, List.getElem?_range h]
  rfl
/-- matrices told by functions -/
def mat (n w : Nat) (f : Nat → Nat → Rat) : Mx := (List.range n).map fun i => (List.range w).map (f i)
theorem prm_mat {a b c : Nat} (f g : Nat → Nat → Rat) : prm (mat a b f) (mat b c g) c = mat a c fun i s => rsum (fun k => f i k * g k s) b := by
  have hl : (mat b c g).length = b := by unfold mat; rw [List.length_map, List.length_range]
  unfold prm
  show ((List.range a).map _).map _ = (List.range a).map _
  rw [List.map_map]
  refine List.map_congr_left fun i _ => ?_
  show (List.range c).map _ = (List.range c).map _
  refine List.map_congr_left fun s hs => ?_
  have hs := List.mem_range.mp hs
  unfold pc
  rw [hl]
  refine rsum_congr _ fun k hk => ?_
  unfold mat
  rw [fun_getD _ hk, fun_getDM _ hk, fun_getD _ hs]
/-- a sum of three cells -/
theorem tri (f g : Nat → Rat) {r : Nat} (hg : ∀ k, ¬ adf k r ≤ 1 → g k = 0) : ∀ N, r < N → rsum (fun k => f k * g k) N = (if r = 0 then 0 else f (r - 1) * g (r - 1)) + f r * g r + (if r + 1 < N then f (r + 1) * g (r + 1) else 0) := by
  have z : ∀ N, N ≤ r - 1 → rsum (fun k => f k * g k) N = 0 := by
    intro N
    induction N with
    | zero => intro _; rfl
    | succ N ih =>
      intro h
      rw [rsum_succ, ih (by omega), hg N (by unfold adf; omega)]
      grind
  have a : rsum (fun k => f k * g k) r = if r = 0 then 0 else f (r - 1) * g (r - 1) := by
    by_cases h0 : r = 0
    · subst h0; rw [if_pos rfl]; rfl
    · rw [if_neg h0]
      have : r = (r - 1) + 1 := by omega
      have e : rsum (fun k => f k * g k) ((r - 1) + 1) = rsum (fun k => f k * g k) (r - 1) + f (r - 1) * g (r - 1) := rsum_succ _ _
      rw [← this, z (r - 1) (Nat.le_refl _), Rat.zero_add] at e
      exact e
  intro N
  induction N with
  | zero => intro h; omega
  | succ N ih =>
    intro h
    rw [rsum_succ]
    by_cases h1 : r < N
    · rw [ih h1]
      by_cases h2 : r + 1 < N
      · rw [if_pos h2, if_pos (show r + 1 < N + 1 by omega), hg N (by unfold adf; omega)]; grind
      · have : N = r + 1 := by omega
        subst this
        rw [if_neg h2, if_pos (show r + 1 < r + 1 + 1 by omega)]
        grind
    · have : N = r := by omega
      subst this
      rw [a, if_neg (show ¬ N + 1 < N + 1 by omega)]
      grind
end G
end

end

section
set_option Elab.async false
set_option linter.all false
set_option maxRecDepth 100000
set_option maxHeartbeats 4000000
set_option exponentiation.threshold 10000
noncomputable section
namespace G
open PySem L2 TX
/-- three neighbours -/
theorem three {n : Nat} {p : Rat} (hn : n ≠ 0) {i s : Nat} (hi : i ≤ n) (hs : s ≤ n) : (if s = 0 then 0 else p ^ adf (s - 1) i * (0 - p)) + p ^ adf s i * mid n p s + (if s + 1 < n + 1 then p ^ adf (s + 1) i * (0 - p) else 0) = if i = s then 1 - p * p else 0 := by
  have P0 : p ^ 0 = 1 := Rat.pow_zero p
  have P1 : p ^ 1 = p := by rw [show (1 : Nat) = 0 + 1 from rfl, Rat.pow_succ, Rat.pow_zero, Rat.one_mul]
  by_cases he : i = s
  · subst he
    rw [if_pos rfl]
    have a2 : adf i i = 0 := by unfold adf; omega
    have a3 : adf (i + 1) i = 1 := by unfold adf; omega
    rw [a2, a3, P0, P1]
    by_cases h0 : i = 0
    · rw [if_pos h0, if_pos (by omega), mid_end (.inl h0)]; grind
    · have a1 : adf (i - 1) i = 1 := by unfold adf; omega
      rw [if_neg h0, a1, P1]
      by_cases h1 : i = n
      · rw [if_neg (by omega), mid_end (.inr h1)]; grind
      · rw [if_pos (by omega), mid_in (fun z => z.elim h0 h1)]; grind
  · rw [if_neg he]
    by_cases hl : i < s
    · obtain ⟨m, rfl⟩ : ∃ m, s = i + 1 + m := ⟨s - i - 1, by omega⟩
      have a1 : adf (i + 1 + m - 1) i = m := by unfold adf; omega
      have a2 : adf (i + 1 + m) i = m + 1 := by unfold adf; omega
      have a3 : adf (i + 1 + m + 1) i = m + 1 + 1 := by unfold adf; omega
      rw [a1, a2, a3, if_neg (by omega), Rat.pow_succ, Rat.pow_succ]
      by_cases h1 : i + 1 + m = n
      · rw [if_neg (by omega), mid_end (.inr h1)]; grind
      · rw [if_pos (by omega), mid_in (by omega)]; grind
    · obtain ⟨m, rfl⟩ : ∃ m, i = s + 1 + m := ⟨i - s - 1, by omega⟩
      have a2 : adf s (s + 1 + m) = m + 1 := by unfold adf; omega
      have a3 : adf (s + 1) (s + 1 + m) = m := by unfold adf; omega
      rw [a2, a3, if_pos (show s + 1 < n + 1 by omega), Rat.pow_succ]
      by_cases h0 : s = 0
      · rw [if_pos h0, mid_end (.inl h0)]; grind
      · have a1 : adf (s - 1) (s + 1 + m) = m + 1 + 1 := by unfold adf; omega
        rw [if_neg h0, a1, Rat.pow_succ, Rat.pow_succ, mid_in (by omega)]; grind
theorem wgt_iwt {n k : Nat} {p : Rat} (h1 : p < 1) : wgt n p k / iwt n p k = 1 / (1 - p) := by
  have z : 1 - p ≠ 0 := by grind
  unfold wgt iwt
  split <;> grind
theorem cell {n : Nat} {p : Rat} (hn : n ≠ 0) (i k s : Nat) (ha : adf s k ≤ 1) {B : Nat} (h : Rt B p) (h1 : p < 1) : stp n p i k * inv n p k s = p ^ adf k i * (if s = k then mid n p k else 0 - p) * (1 / ((1 - p) * (1 + p))) := by
  have z1 : 1 - p ≠ 0 := by grind
  have z2 : 1 + p ≠ 0 := by have := one_p h; grind
  have hw := wgt_iwt (n := n) (k := k) h1
  have z3 := iwt_ne h1 n k
  unfold stp inv ivc
  rw [if_neg hn, if_neg hn, if_pos ha]
  generalize (if s = k then mid n p k else 0 - p) = m
  generalize p ^ adf k i = a
  generalize wgt n p k = w at *
  generalize iwt n p k = d at *
  have e : w * a / (1 + p) * (m / d) = (w / d) * a * m / (1 + p) := by grind
  rw [e, hw]
  grind
theorem adf_comm (a b : Nat) : adf a b = adf b a := by unfold adf; omega
theorem inv_far {n : Nat} {p : Rat} (hn : n ≠ 0) {k s : Nat} (h : ¬ adf k s ≤ 1) : inv n p s k = 0 := by unfold inv; rw [if_neg hn, if_neg h]
theorem fore {n : Nat} {p : Rat} {B : Nat} (h : Rt B p) (h1 : n = 0 ∨ p < 1) {i s : Nat} (hi : i ≤ n) (hs : s ≤ n) : rsum (fun k => stp n p i k * inv n p k s) (n + 1) = if i = s then 1 else 0 := by
  by_cases hn : n = 0
  · subst hn
    have : i = s := by omega
    rw [if_pos this, rsum_succ, rsum_zero]
    unfold stp inv
    rw [if_pos rfl, if_pos rfl]
    grind
  · have hp := h1.resolve_left hn
    have z : (1 - p) * (1 + p) ≠ 0 := fun z => by
      have := one_p h
      rcases Rat.mul_eq_zero.mp z with z | z <;> grind
    have t := three (p := p) hn hi hs
    rw [tri (stp n p i) (fun k => inv n p k s) (r := s) (fun k hk => inv_far hn (by rw [adf_comm]; exact hk)) (n + 1) (by omega)]
    have c2 := cell hn i s s (by unfold adf; omega) h hp
    have c3 := cell hn i (s + 1) s (by unfold adf; omega) h hp
    rw [if_pos rfl] at c2
    rw [if_neg (by omega)] at c3
    rw [c2, c3]
    by_cases h0 : s = 0
    · rw [if_pos h0] at t ⊢
      by_cases h2 : s + 1 < n + 1
      · rw [if_pos h2] at t ⊢
        generalize p ^ adf s i = a at *
        generalize p ^ adf (s + 1) i = b at *
        generalize mid n p s = m at *
        split <;> rename_i hh <;> simp only [hh, if_true, if_false] at t <;> grind
      · rw [if_neg h2] at t ⊢
        generalize p ^ adf s i = a at *
        generalize mid n p s = m at *
        split <;> rename_i hh <;> simp only [hh, if_true, if_false] at t <;> grind
    · have c1 := cell hn i (s - 1) s (by unfold adf; omega) h hp
      rw [if_neg (show ¬ s = s - 1 by omega)] at c1
      rw [if_neg h0] at t ⊢
      rw [c1]
      by_cases h2 : s + 1 < n + 1
      · rw [if_pos h2] at t ⊢
        generalize p ^ adf (s - 1) i = c at *
        generalize p ^ adf s i = a at *
        generalize p ^ adf (s + 1) i = b at *
        generalize mid n p s = m at *
        split <;> rename_i hh <;> simp only [hh, if_true, if_false] at t <;> grind
      · rw [if_neg h2] at t ⊢
        generalize p ^ adf (s - 1) i = c at *
        generalize p ^ adf s i = a at *
        generalize mid n p s = m at *
        split <;> rename_i hh <;> simp only [hh, if_true, if_false] at t <;> grind
theorem rsum_mul (f : Nat → Rat) (c : Rat) : ∀ N, rsum (fun k => c * f k) N = c * rsum f N
  | 0 => by rw [rsum_zero, rsum_zero, Rat.mul_zero]
  | N + 1 => by rw [rsum_succ, rsum_succ, rsum_mul f c N, Rat.mul_add]
theorem back {n : Nat} {p : Rat} {B : Nat} (h : Rt B p) (h1 : n = 0 ∨ p < 1) {i s : Nat} (hi : i ≤ n) (hs : s ≤ n) : rsum (fun k => inv n p i k * stp n p k s) (n + 1) = if i = s then 1 else 0 := by
  by_cases hn : n = 0
  · subst hn
    have : i = s := by omega
    rw [if_pos this, rsum_succ, rsum_zero]
    unfold stp inv
    rw [if_pos rfl, if_pos rfl]
    grind
  · have hp := h1.resolve_left hn
    have z0 : 1 + p ≠ 0 := by have := one_p h; grind
    have z1 : 1 - p ≠ 0 := by grind
    have z3 := iwt_ne hp n i
    have t := three (p := p) hn hs hi
    -- what stands before all
    have e : ∀ k, k < n + 1 → inv n p i k * stp n p k s = (wgt n p s / (iwt n p i * (1 + p))) * (p ^ adf k s * (if adf k i ≤ 1 then (if k = i then mid n p i else 0 - p) else 0)) := fun k _ => by
      unfold stp inv ivc
      rw [if_neg hn, if_neg hn, adf_comm s k]
      by_cases ha : adf k i ≤ 1
      · rw [if_pos ha, if_pos ha]
        generalize (if k = i then mid n p i else 0 - p) = m
        generalize p ^ adf k s = a
        generalize wgt n p s = w
        generalize iwt n p i = d at *
        clear t
        grind
      · rw [if_neg ha, if_neg ha]
        grind
    rw [rsum_congr _ e, rsum_mul, tri (fun k => p ^ adf k s) (fun k => if adf k i ≤ 1 then (if k = i then mid n p i else 0 - p) else 0) (r := i) (fun k hk => if_neg hk) (n + 1) (by omega)]
    have c2 : (if adf i i ≤ 1 then (if i = i then mid n p i else 0 - p) else 0) = mid n p i := by rw [if_pos (by unfold adf; omega), if_pos rfl]
    have c3 : (if adf (i + 1) i ≤ 1 then (if i + 1 = i then mid n p i else 0 - p) else 0) = 0 - p := by rw [if_pos (by unfold adf; omega), if_neg (by omega)]
    have hw := wgt_iwt (n := n) (k := i) hp
    have fin : (if i = 0 then 0 else p ^ adf (i - 1) s * (if adf (i - 1) i ≤ 1 then (if i - 1 = i then mid n p i else 0 - p) else 0)) = if i = 0 then 0 else p ^ adf (i - 1) s * (0 - p) := by
      by_cases h0 : i = 0
      · rw [if_pos h0, if_pos h0]
      · rw [if_neg h0, if_neg h0, if_pos (by unfold adf; omega), if_neg (by omega)]
    rw [c2, c3, fin, t]
    by_cases his : s = i
    · subst his
      rw [if_pos rfl, if_pos rfl]
      generalize wgt n p s = w at *
      generalize iwt n p s = d at *
      clear t c2 c3 fin
      grind
    · rw [if_neg his, if_neg fun z => his z.symm, Rat.mul_zero]
end G
end

end

section
set_option Elab.async false
set_option linter.all false
set_option maxRecDepth 100000
set_option maxHeartbeats 4000000
set_option exponentiation.threshold 10000
noncomputable section
namespace G
open PySem L2 TX
/-! sizes: common denominators -/
def Iq (D x : Rat) : Prop := ∃ z : Int, x * D = (z : Rat)
theorem Iq.add {D x y : Rat} (h : Iq D x) (g : Iq D y) : Iq D (x + y) := by
  obtain ⟨a, ha⟩ := h
  obtain ⟨b, hb⟩ := g
  exact ⟨a + b, by rw [Rat.intCast_add, ← ha, ← hb, Rat.add_mul]⟩
theorem Iq.mul {D E x y : Rat} (h : Iq D x) (g : Iq E y) : Iq (D * E) (x * y) := by
  obtain ⟨a, ha⟩ := h
  obtain ⟨b, hb⟩ := g
  exact ⟨a * b, by rw [Rat.intCast_mul, ← ha, ← hb]; grind⟩
theorem Iq.up {D x : Rat} (h : Iq D x) (e : Int) : Iq (D * (e : Rat)) x := by
  obtain ⟨a, ha⟩ := h
  exact ⟨a * e, by rw [Rat.intCast_mul, ← ha]; grind⟩
theorem iq_int (z : Int) : Iq 1 (z : Rat) := ⟨z, by rw [Rat.mul_one]⟩
/-- a chance of a known denominator -/
theorem Iq.bt {B : Nat} {D : Int} {x : Rat} (h : Iq (D : Rat) x) (h0 : 0 ≤ x) (h1 : x ≤ 1) (hD : 0 < D) (hB : D < 2 ^ B) : Bt B x := by
  obtain ⟨z, hz⟩ := h
  have hd : (0 : Rat) < (D : Rat) := by have := Rat.intCast_lt_intCast.mpr hD; exact this
  have e : x = (z : Rat) / (D : Rat) := by rw [← hz]; grind
  have g0 : (0 : Rat) ≤ (z : Rat) := by rw [← hz]; exact Rat.mul_nonneg h0 (Rat.le_of_lt hd)
  have g1 : (z : Rat) ≤ (D : Rat) := by
    rw [← hz]
    have := Rat.mul_le_mul_of_nonneg_right h1 (Rat.le_of_lt hd)
    rwa [Rat.one_mul] at this
  have g0 : 0 ≤ z := Rat.intCast_le_intCast.mp (by exact g0)
  have g1 : z ≤ D := Rat.intCast_le_intCast.mp g1
  rw [e]
  have t : ((2 : Int) ^ B).natAbs = 2 ^ B := by rw [Int.natAbs_pow]; rfl
  have t2 : (0 : Int) < 2 ^ B := Int.pow_pos (by decide)
  exact bt_div (by omega) (by omega) (by omega)
/-- product of the first few -/
def pr (W : Nat → Int) : Nat → Int
  | 0 => 1
  | N + 1 => pr W N * W N
theorem iq_sum {C : Int} {a g : Nat → Rat} {W : Nat → Int} : ∀ N, (∀ j, j < N → Iq (C : Rat) (a j) ∧ Iq (W j : Rat) (g j)) → Iq ((C * pr W N : Int) : Rat) (rsum (fun j => a j * g j) N)
  | 0, _ => ⟨0, by rw [rsum_zero, Rat.zero_mul]; rfl⟩
  | N + 1, h => by
    rw [rsum_succ]
    have ih := (iq_sum (C := C) N fun j hj => h j (by omega)).up (W N)
    have l := ((h N (by omega)).1.mul (h N (by omega)).2).up (pr W N)
    have e1 : ((C * pr W (N + 1) : Int) : Rat) = ((C * pr W N : Int) : Rat) * (W N : Rat) := by
      show ((C * (pr W N * W N) : Int) : Rat) = _
      rw [Rat.intCast_mul, Rat.intCast_mul, Rat.intCast_mul, Rat.mul_assoc]
    have e2 : ((C : Int) : Rat) * (W N : Rat) * (pr W N : Rat) = ((C * pr W (N + 1) : Int) : Rat) := by
      rw [e1, Rat.intCast_mul]; grind
    rw [e2] at l
    rw [← e1] at ih
    exact ih.add l
theorem pr_lt {W : Nat → Int} {B : Nat} : ∀ N, (∀ j, j < N → 0 < W j ∧ W j < 2 ^ B) → 0 < pr W N ∧ pr W N ≤ 2 ^ (B * N)
  | 0, _ => ⟨by show (0 : Int) < 1; decide, by rw [Nat.mul_zero]; show (1 : Int) ≤ 1; decide⟩
  | N + 1, h => by
    obtain ⟨a, b⟩ := pr_lt N fun j hj => h j (by omega)
    obtain ⟨c, d⟩ := h N (by omega)
    refine ⟨Int.mul_pos a c, ?_⟩
    show pr W N * W N ≤ _
    rw [Nat.mul_succ, Int.pow_add]
    exact Int.mul_le_mul b (by omega) (by omega) (Int.le_of_lt (Int.pow_pos (by decide)))
theorem pow_add' (x : Rat) (a b : Nat) : x ^ (a + b) = x ^ a * x ^ b := by grind
theorem mul_pow' (x y : Rat) : ∀ k : Nat, (x * y) ^ k = x ^ k * y ^ k
  | 0 => by rw [Rat.pow_zero, Rat.pow_zero, Rat.pow_zero, Rat.one_mul]
  | k + 1 => by rw [Rat.pow_succ, Rat.pow_succ, Rat.pow_succ, mul_pow' x y k]; grind
/-- a ladder's cells -/
theorem iq_stp {u v : Int} (h0 : 1 ≤ u) (h1 : u ≤ v) {n i r : Nat} (hi : i ≤ n) (hr : r ≤ n) : Iq ((v ^ n * (u + v) : Int) : Rat) (stp n ((u : Rat) / (v : Rat)) i r) := by
  have hv : (0 : Rat) < (v : Rat) := by have := Rat.intCast_lt_intCast.mpr (show (0 : Int) < v by omega); exact this
  have hu : (0 : Rat) < (u : Rat) := by have := Rat.intCast_lt_intCast.mpr (show (0 : Int) < u by omega); exact this
  unfold stp
  split
  · exact ⟨v ^ n * (u + v), by rw [Rat.one_mul]⟩
  · have ha : adf r i ≤ n := by unfold adf; omega
    obtain ⟨m, hm⟩ : ∃ m, n = adf r i + m := ⟨n - adf r i, by omega⟩
    have hw : ∃ y : Int, wgt n ((u : Rat) / (v : Rat)) r * (v : Rat) = (y : Rat) := by
      unfold wgt
      split
      · exact ⟨v, by rw [Rat.one_mul]⟩
      · exact ⟨v - u, by rw [Rat.intCast_sub]; grind⟩
    obtain ⟨y, hy⟩ := hw
    refine ⟨y * u ^ (adf r i) * v ^ m, ?_⟩
    have hk : ((u : Rat) / (v : Rat)) ^ adf r i * (v : Rat) ^ adf r i = (u : Rat) ^ adf r i := by
      rw [← mul_pow']
      congr 1
      grind
    have hs : (1 + (u : Rat) / (v : Rat)) * (v : Rat) = ((u + v : Int) : Rat) := by rw [Rat.intCast_add]; grind
    have hpos : 1 + (u : Rat) / (v : Rat) ≠ 0 := by
      have : 0 < (u : Rat) / (v : Rat) := by rw [Rat.div_def]; exact Rat.mul_pos hu (Rat.inv_pos.mpr hv)
      grind
    rw [Rat.intCast_mul, Rat.intCast_mul, Rat.intCast_mul, Rat.intCast_pow, Rat.intCast_pow, Rat.intCast_pow, ← hs, ← hy, ← hk]
    have hn : (v : Rat) ^ n = (v : Rat) ^ adf r i * (v : Rat) ^ m := (congrArg (fun k => (v : Rat) ^ k) hm).trans (pow_add' _ _ _)
    rw [hn]
    generalize wgt n ((u : Rat) / (v : Rat)) r = w at *
    generalize ((u : Rat) / (v : Rat)) ^ adf r i = a at *
    generalize (v : Rat) ^ adf r i = b at *
    generalize (v : Rat) ^ m = c at *
    generalize 1 + (u : Rat) / (v : Rat) = d at *
    clear hk hy hs hn hm
    grind
end G
end

end

section
set_option Elab.async false
set_option linter.all false
set_option maxRecDepth 100000
set_option maxHeartbeats 4000000
set_option exponentiation.threshold 10000
noncomputable section
namespace G
open PySem L2 TX
/-! the rows that are drawn -/
def GRow (v : Nat) (r : List Rat) : Prop := ∃ L : List Int, Ws v L ∧ 0 < L.sum ∧ r = L.map fun w : Int => (w : Rat) / ((L.sum : Int) : Rat)
theorem shares_rr {L : List Int} (h : L.sum ≠ 0) : RowD (L.map fun w => nmP w L.sum) = Rr (L.map fun w : Int => (w : Rat) / ((L.sum : Int) : Rat)) := by
  unfold RowD
  rw [List.map_map]
  show D.tup _ = D.tup _
  rw [List.map_map]
  congr 1
  refine List.map_congr_left fun w _ => ?_
  show Np (nmP w L.sum) = Np (ofR _)
  rw [nmP_rat h]
theorem frac_sum (L : List Int) (c : Rat) : (L.map fun w : Int => (w : Rat) / c).sum = ((L.sum : Int) : Rat) / c := by
  induction L with
  | nil => show (0 : Rat) = ((0 : Int) : Rat) / c; rw [Rat.div_def]; show (0 : Rat) = 0 * c⁻¹; rw [Rat.zero_mul]
  | cons a L ih => rw [List.map_cons, List.sum_cons, List.sum_cons, ih, Rat.intCast_add, Rat.div_def, Rat.div_def, Rat.div_def, Rat.add_mul]
theorem grow_rok {v : Nat} {r : List Rat} (hv : v ≤ 3) (h : GRow v r) : Rok 24 r := by
  obtain ⟨L, hw, h0, rfl⟩ := h
  have hs := sum_le L hw.rng
  rw [hw.len] at hs
  have hS : (0 : Rat) < ((L.sum : Int) : Rat) := by have := Rat.intCast_lt_intCast.mpr h0; exact this
  refine ⟨by rw [List.length_map, hw.len]; omega, fun a ha => ?_, fun a ha => ?_, ?_, by decide, by rw [List.length_map, hw.len]; omega⟩
  · obtain ⟨w, hm, rfl⟩ := List.mem_map.mp ha
    rw [Rat.div_def]
    exact Rat.mul_nonneg (by have := Rat.intCast_le_intCast.mpr (hw.rng w hm).1; exact this) (Rat.le_of_lt (Rat.inv_pos.mpr hS))
  · obtain ⟨w, hm, rfl⟩ := List.mem_map.mp ha
    have := hw.rng w hm
    exact bt_div (by omega) (by omega) (by omega)
  · rw [frac_sum]
    grind
theorem grow_iq {v : Nat} {r : List Rat} (hv : v ≤ 3) (h : GRow v r) : ∃ W : Int, (0 < W ∧ W < 2 ^ 22) ∧ ∀ a ∈ r, Iq (W : Rat) a := by
  obtain ⟨L, hw, h0, rfl⟩ := h
  have hs := sum_le L hw.rng
  rw [hw.len] at hs
  have hS : (0 : Rat) < ((L.sum : Int) : Rat) := by have := Rat.intCast_lt_intCast.mpr h0; exact this
  refine ⟨L.sum, ⟨h0, by omega⟩, fun a ha => ?_⟩
  obtain ⟨w, hm, rfl⟩ := List.mem_map.mp ha
  exact ⟨w, by grind⟩
abbrev gdE : EvE := eCallP (aCons (eCallA (.io 0 :: .v (eVar 6) :: []) f__law_weights) (aNil)) id f__law_shares
theorem guide_loop {v : Nat} (h0 : 0 < v) (hv : v ≤ 3) {x1 x2 x3 x4 x5 x7 x8 x9 x10 x11 : Sl} : ∀ (q : List D) (l : List D) (x : Sl), Dk l → (∀ ds, x ≠ .ow ds) →
    ∃ (M : Mx) (l' : List D) (y : Sl), cLoop [12] (putN [] 12) tTrue gdE q [.ow l, x1, x2, x3, x4, x5, .pu (.int (v : Int)), x7, x8, x9, x10, x11, x] = .ok (M.map Rr) [.ow l', x1, x2, x3, x4, x5, .pu (.int (v : Int)), x7, x8, x9, x10, x11, y] ∧ Dk l' ∧ M.length = q.length ∧ (∀ r ∈ M, GRow v r) ∧ (∀ ds, y ≠ .ow ds)
  | [], l, x, hl, hx => ⟨[], l, x, rfl, hl, rfl, (fun _ h => by cases h), hx⟩
  | a :: q, l, x, hl, hx => by
    obtain ⟨L, l1, e1, d1, hw, hs⟩ := run_weights hl h0 (show v ≤ 100 by omega)
    have hsl := sum_le L hw.rng
    rw [hw.len] at hsl
    have e2 := run_shares (L := L) (by rw [hw.len]; omega) (by omega) (by omega)
    rw [shares_rr (by omega)] at e2
    obtain ⟨M, l', y, hy, d2, hm, hg, hyn⟩ := guide_loop h0 hv (x1 := x1) (x2 := x2) (x3 := x3) (x4 := x4) (x5 := x5) (x7 := x7) (x8 := x8) (x9 := x9) (x10 := x10) (x11 := x11) q l1 (.pu a) d1 (fun _ z => by cases z)
    refine ⟨(L.map fun w : Int => (w : Rat) / ((L.sum : Int) : Rat)) :: M, l', y, ?_, d2, by rw [List.length_cons, List.length_cons, hm], fun r hr => ?_, hyn⟩
    · have key : ∀ (st0 st1 : List Sl), st0 = [.ow l, x1, x2, x3, x4, x5, .pu (.int (v : Int)), x7, x8, x9, x10, x11, .pu a] → st1 = [.ow l1, x1, x2, x3, x4, x5, .pu (.int (v : Int)), x7, x8, x9, x10, x11, .pu a] → gdE st0 = .ok (Rr (L.map fun w : Int => (w : Rat) / ((L.sum : Int) : Rat)), false) st1 := by
        rintro _ _ rfl rfl
        clear hy hm hg hsl hw hs h0 hv hl d1 d2 hx hyn
        unfold gdE
        walk_at "rsh"
      exact cLoop_t (st1 := [.ow l, x1, x2, x3, x4, x5, .pu (.int (v : Int)), x7, x8, x9, x10, x11, .pu a]) (st2 := [.ow l, x1, x2, x3, x4, x5, .pu (.int (v : Int)), x7, x8, x9, x10, x11, .pu a]) (st3 := [.ow l1, x1, x2, x3, x4, x5, .pu (.int (v : Int)), x7, x8, x9, x10, x11, .pu a]) (z := (Rr (L.map fun w : Int => (w : Rat) / ((L.sum : Int) : Rat)), false)) rfl rfl (key _ _ rfl rfl) rfl hy
    · rcases List.mem_cons.mp hr with rfl | hr
      · exact ⟨L, hw, hs, rfl⟩
      · exact hg r hr
/-! the guide read through the ladder and back -/
theorem rsum_add (f g : Nat → Rat) : ∀ N, rsum f N + rsum g N = rsum (fun k => f k + g k) N
  | 0 => by rw [rsum_zero, rsum_zero, rsum_zero, Rat.add_zero]
  | N + 1 => by rw [rsum_succ, rsum_succ, rsum_succ, ← rsum_add f g N]; grind
theorem exch (b : Nat → Rat) (a : Nat → Nat → Rat) (g : Nat → Rat) (M : Nat) : ∀ N, rsum (fun k => b k * rsum (fun j => a k j * g j) M) N = rsum (fun j => rsum (fun k => b k * a k j) N * g j) M
  | 0 => by
    rw [rsum_zero]
    have : rsum (fun j => rsum (fun k => b k * a k j) 0 * g j) M = rsum (fun j => 0 * g j) M := rsum_congr M fun j _ => by rw [rsum_zero]
    rw [this, rsum_mul, Rat.zero_mul]
  | N + 1 => by
    rw [rsum_succ, exch b a g M N, ← rsum_mul, rsum_add]
    exact rsum_congr M fun j _ => by rw [rsum_succ]; grind
theorem pick_i (g : Nat → Rat) {i : Nat} : ∀ M, rsum (fun j => (if i = j then 1 else 0) * g j) M = if i < M then g i else 0
  | 0 => by rw [rsum_zero, if_neg (by omega)]
  | M + 1 => by
    rw [rsum_succ, pick_i g M]
    by_cases h : i = M
    · subst h; rw [if_neg (by omega), if_pos rfl, if_pos (by omega)]; grind
    · rw [if_neg h]
      by_cases h2 : i < M
      · rw [if_pos h2, if_pos (by omega)]; grind
      · rw [if_neg h2, if_neg (by omega)]; grind
theorem map_range {α β : Type} (f : α → β) (M : List α) (d : α) : M.map f = (List.range M.length).map fun j => f (M.getD j d) := by
  apply List.ext_getElem
  · simp
  · intro i h1 h2
    rw [List.length_map] at h1
    rw [List.getElem_map, List.getElem_map, List.getElem_range, List.getD_eq_getElem?_getD, List.getElem?_eq_getElem h1]
    rfl
theorem mat_of {a b : Nat} {M : Mx} (h1 : M.length = a) (h2 : ∀ r ∈ M, r.length = b) : M = mat a b fun j s => (M.getD j []).getD s 0 := by
  have e := map_range (fun r : List Rat => r) M []
  rw [List.map_id'] at e
  conv => lhs; rw [e]
  unfold mat
  rw [h1]
  refine List.map_congr_left fun j hj => ?_
  have hj := List.mem_range.mp hj
  have hb := h2 _ (getD_mem (L := M) (k := j) (d := []) (by omega))
  have := range_getD' (M.getD j [])
  rw [hb] at this
  exact this.symm
theorem mul_mat {n w v : Nat} (f : Nat → Nat → Rat) {M : Mx} (h1 : M.length = w) : mulM (mat n w f) M v = mat n v fun k s => rsum (fun j => f k j * (M.getD j []).getD s 0) w := by
  unfold mulM cols mat
  rw [List.map_map]
  refine List.map_congr_left fun k _ => ?_
  show ((List.range v).map (col M)).map _ = _
  rw [List.map_map]
  refine List.map_congr_left fun s _ => ?_
  show dotR ((List.range w).map (f k)) (col M s) = _
  have e : col M s = (List.range w).map fun j => (M.getD j []).getD s 0 := by
    unfold col
    rw [map_range _ M [], h1]
  rw [e]
  unfold dotR rsum
  congr 1
  apply List.ext_getElem
  · simp
  · intro i h1 h2
    simp
theorem back_read {n v : Nat} {p : Rat} {B : Nat} (h : Rt B p) (h1 : n = 0 ∨ p < 1) {M : Mx} (hl : M.length = n + 1) (hw : ∀ r ∈ M, r.length = v) : prm (inm n p) (mulM (lad n p) M v) v = M := by
  have e1 : lad n p = mat (n + 1) (n + 1) (stp n p) := rfl
  have e2 : inm n p = mat (n + 1) (n + 1) (inv n p) := rfl
  rw [e1, e2, mul_mat _ hl, prm_mat]
  conv => rhs; rw [mat_of hl hw]
  unfold mat
  refine List.map_congr_left fun i hi => ?_
  have hi := List.mem_range.mp hi
  refine List.map_congr_left fun s _ => ?_
  show rsum (fun k => inv n p i k * rsum (fun j => stp n p k j * (M.getD j []).getD s 0) (n + 1)) (n + 1) = (M.getD i []).getD s 0
  rw [exch]
  have : rsum (fun j => rsum (fun k => inv n p i k * stp n p k j) (n + 1) * (M.getD j []).getD s 0) (n + 1) = rsum (fun j => (if i = j then 1 else 0) * (M.getD j []).getD s 0) (n + 1) := rsum_congr _ fun j hj => by rw [back h h1 (by omega) (by omega)]
  rw [this, pick_i, if_pos hi]
theorem rsum_nn {f : Nat → Rat} : ∀ N, (∀ k, k < N → 0 ≤ f k) → 0 ≤ rsum f N
  | 0, _ => by rw [rsum_zero]; exact Rat.le_refl
  | N + 1, h => by
    rw [rsum_succ]
    have a := rsum_nn N fun k hk => h k (by omega)
    have b := h N (by omega)
    grind
theorem rsum_le {f g : Nat → Rat} : ∀ N, (∀ k, k < N → f k ≤ g k) → rsum f N ≤ rsum g N
  | 0, _ => Rat.le_refl
  | N + 1, h => by
    rw [rsum_succ, rsum_succ]
    have a := rsum_le N fun k hk => h k (by omega)
    have b := h N (by omega)
    grind
theorem two_le {a b : Nat} (h : a ≤ b) : (2 : Int) ^ a ≤ 2 ^ b := by
  have := Nat.pow_le_pow_right (n := 2) (by decide) h
  have e : ∀ k : Nat, (2 : Int) ^ k = ((2 ^ k : Nat) : Int) := fun k => by rw [Int.natCast_pow]; rfl
  rw [e, e]
  omega
theorem vpow_le {v : Int} (h0 : 0 ≤ v) (h : v ≤ 2 ^ 27) : ∀ n : Nat, v ^ n ≤ 2 ^ (27 * n)
  | 0 => by rw [Int.pow_zero]; decide
  | n + 1 => by
    rw [Int.pow_succ, Nat.mul_succ, Int.pow_add]
    exact Int.mul_le_mul (vpow_le h0 h n) h h0 (Int.le_of_lt (Int.pow_pos (by decide)))
theorem le_sum : ∀ (l : List Rat), (∀ a ∈ l, 0 ≤ a) → 0 ≤ l.sum ∧ ∀ a ∈ l, a ≤ l.sum
  | [], _ => ⟨by decide, fun _ h => by cases h⟩
  | x :: l, h => by
    obtain ⟨h1, h2⟩ := le_sum l fun a ha => h a (List.mem_cons_of_mem _ ha)
    have hx := h x List.mem_cons_self
    rw [List.sum_cons]
    refine ⟨by grind, fun a ha => ?_⟩
    rcases List.mem_cons.mp ha with rfl | ha
    · grind
    · have := h2 a ha
      grind
theorem le_one {B : Nat} {r : List Rat} (h : Rok B r) : ∀ a ∈ r, a ≤ 1 := fun a ha => by
  have := (le_sum r h.nn).2 a ha
  rwa [h.sum] at this
/-- sizes of what is read -/
theorem read_bt {u v : Int} (h0 : 1 ≤ u) (h1 : u ≤ v) (h2 : v < 2 ^ 27) {n c : Nat} (hn : n ≤ 9) (hc : c ≤ 3) {M : Mx} (hl : M.length = n + 1) (hg : ∀ r ∈ M, GRow c r) : ∀ q ∈ mulM (lad n ((u : Rat) / (v : Rat))) M c, q.length = c ∧ ∀ a ∈ q, Bt 520 a := by
  have hp := rt_div h0 h1 h2
  have hM : ∀ j, j < n + 1 → GRow c (M.getD j []) := fun j hj => hg _ (getD_mem (by omega))
  obtain ⟨W, hW⟩ : ∃ W : Nat → Int, ∀ j, j < n + 1 → (0 < W j ∧ W j < 2 ^ 22) ∧ ∀ a ∈ M.getD j [], Iq (W j : Rat) a :=
    ⟨fun j => if h : j < n + 1 then Classical.choose (grow_iq hc (hM j h)) else 1, fun j hj => by
      dsimp only
      rw [dif_pos hj]
      exact Classical.choose_spec (grow_iq hc (hM j hj))⟩
  have e1 : lad n ((u : Rat) / (v : Rat)) = mat (n + 1) (n + 1) (stp n ((u : Rat) / (v : Rat))) := rfl
  rw [e1, mul_mat _ hl]
  intro q hq
  obtain ⟨k, hk, rfl⟩ := List.mem_map.mp hq
  have hk := List.mem_range.mp hk
  refine ⟨by rw [List.length_map, List.length_range], fun a ha => ?_⟩
  obtain ⟨s, hs, rfl⟩ := List.mem_map.mp ha
  have hs := List.mem_range.mp hs
  have hr : ∀ j, j < n + 1 → Rok 24 (M.getD j []) ∧ (M.getD j []).getD s 0 ∈ M.getD j [] := fun j hj => ⟨grow_rok hc (hM j hj), getD_mem (by
    obtain ⟨L, hw, _, e⟩ := hM j hj
    rw [e, List.length_map, hw.len]; exact hs)⟩
  have iq := iq_sum (C := v ^ n * (u + v)) (a := fun j => stp n ((u : Rat) / (v : Rat)) k j) (g := fun j => (M.getD j []).getD s 0) (W := W) (n + 1) fun j hj => ⟨iq_stp h0 h1 (by omega) (by omega), (hW j hj).2 _ (hr j hj).2⟩
  have pw := pr_lt (W := W) (B := 22) (n + 1) fun j hj => (hW j hj).1
  have vn : 0 < v ^ n ∧ v ^ n ≤ 2 ^ 243 := ⟨Int.pow_pos (by omega), Int.le_trans (vpow_le (by omega) (by omega) n) (two_le (by omega))⟩
  have pw2 : pr W (n + 1) ≤ 2 ^ 220 := Int.le_trans pw.2 (two_le (by omega))
  refine iq.bt ?_ ?_ (Int.mul_pos (Int.mul_pos vn.1 (by omega)) pw.1) ?_
  · exact rsum_nn _ fun j hj => Rat.mul_nonneg (stp_nn hp n k j) ((hr j hj).1.nn _ (hr j hj).2)
  · have le : rsum (fun j => stp n ((u : Rat) / (v : Rat)) k j * (M.getD j []).getD s 0) (n + 1) ≤ rsum (fun j => stp n ((u : Rat) / (v : Rat)) k j) (n + 1) := rsum_le _ fun j hj => by
      have a1 := le_one (hr j hj).1 _ (hr j hj).2
      have := Rat.mul_le_mul_of_nonneg_left a1 (stp_nn hp n k j)
      rwa [Rat.mul_one] at this
    have e : rsum (fun j => stp n ((u : Rat) / (v : Rat)) k j) (n + 1) = 1 := row_sum hp (by omega)
    rw [e] at le
    exact le
  · have m1 : v ^ n * (u + v) ≤ 2 ^ 243 * 2 ^ 28 := Int.mul_le_mul vn.2 (by omega) (by omega) (by decide)
    have m2 : v ^ n * (u + v) * pr W (n + 1) ≤ 2 ^ 243 * 2 ^ 28 * 2 ^ 220 := Int.mul_le_mul m1 pw2 (Int.le_of_lt pw.1) (by decide)
    exact Int.lt_of_le_of_lt m2 (by decide)
end G
end

end

section
set_option Elab.async false
set_option linter.all false
set_option maxRecDepth 100000
set_option maxHeartbeats 4000000
set_option exponentiation.threshold 10000
noncomputable section
namespace G
open PySem L2 TX
theorem pt_np (u : Int × Int) : Pt 1 (Np u) := pt_t (by simp) fun d hd => by
  rcases List.mem_cons.mp hd with rfl | h
  · exact .int 0 _
  · rw [List.mem_singleton.mp h]; exact .int 0 _
theorem pt_nr (a : Rat) : Pt 1 (Nr a) := pt_np (ofR a)
theorem pt_mr {M : Mx} (h1 : M.length ≤ 100) (h2 : ∀ r ∈ M, r.length ≤ 100) : Pt 3 (Mr M) := pt_t (by rw [List.length_map]; omega) fun d hd => by
  obtain ⟨r, hr, rfl⟩ := List.mem_map.mp hd
  refine pt_t (by rw [List.length_map]; have := h2 r hr; omega) fun d hd => ?_
  obtain ⟨a, _, rfl⟩ := List.mem_map.mp hd
  exact pt_np (ofR a)
theorem same_one {d : D} (h : Pt 7 d) : f__law_same 8 [.pu d, .pu d] = .ok (.bl true, false) [.pu d, .pu d] := run_same 7 _ h
theorem same_two {d e : D} (h : Pt 6 d) (g : Pt 6 e) : f__law_same 8 [.pu (.lst [d, e]), .pu (.lst [d, e])] = .ok (.bl true, false) [.pu (.lst [d, e]), .pu (.lst [d, e])] :=
  run_same 7 _ (pt_l (by simp) fun e he => by
    rcases List.mem_cons.mp he with rfl | he
    · exact h
    · rw [List.mem_singleton.mp he]; exact g)
theorem mat_pt {a b : Nat} (f : Nat → Nat → Rat) (ha : a ≤ 100) (hb : b ≤ 100) : Pt 6 (Mr (mat a b f)) := by
  refine pt_mono (pt_mr (by unfold mat; rw [List.length_map, List.length_range]; exact ha) fun r hr => ?_) 6 (by decide)
  obtain ⟨i, _, rfl⟩ := List.mem_map.mp hr
  rw [List.length_map, List.length_range]
  exact hb
/-! the law's unit -/
def unr (n j : Nat) : List Rat := (List.range (n + 1)).map fun s => if j = s then (1 : Rat) else 0
theorem l_unit {n j : Nat} (hn : n ≤ 20) : f__law_unit [.pu (.int (n : Int)), .pu (.int (j : Int))] = .ok (Rr (unr n j), false) [.pu (.int (n : Int)), .pu (.int (j : Int))] := by
  have rg := fun st => rng_n1 (st := st) (n := n) (by omega)
  have e1 : eLc [2] (iRng (eBin fAdd (eVar 0) (eC (.int 1)))) (putN [] 2) (tTrue) (eTup (aCons (eUn fInt (eBinV (fEq true) 1 (eVar 2))) (aCons (eC (.int 1)) (aNil)))) [.pu (.int (n : Int)), .pu (.int (j : Int)), .un] = .ok (.lst ((List.range (n + 1)).map fun s => Nr (if j = s then (1 : Rat) else 0)), true) [.pu (.int (n : Int)), .pu (.int (j : Int)), .un] :=
    eLc_map (fun (k : Nat) => D.int (k : Int)) (fun s => Nr (if j = s then (1 : Rat) else 0)) (fun r => [.pu (.int (n : Int)), .pu (.int (j : Int)), .pu (.int (r : Int))]) (List.range (n + 1)) (by clear hn; walk_at "rsh") (by rw [List.length_range]; omega) fun s hs => ⟨false, by
      have o6 : ∀ c : Bool, fInt (.bl c) = some (.int (if c then 1 else 0), false) := fun _ => rfl
      have n0 : D.tup [.int 0, .int 1] = Nr 0 := rfl
      have n1 : D.tup [.int 1, .int 1] = Nr 1 := rfl
      by_cases hc : j = s
      · have c1 : decide ((j : Int) = (s : Int)) = true := decide_eq_true (by omega)
        rw [if_pos hc]
        clear hs hn rg hc
        walk_at "rsh"
      · have c1 : decide ((j : Int) = (s : Int)) = false := decide_eq_false (by omega)
        rw [if_neg hc]
        clear hs hn rg hc
        walk_at "rsh"⟩
  have e2 : ((List.range (n + 1)).map fun s => Nr (if j = s then (1 : Rat) else 0)) = (unr n j).map Nr := by unfold unr; rw [List.map_map]; rfl
  rw [e2] at e1
  clear hn e2 rg
  unfold f__law_unit r__law_unit
  walk_at "rsh"
/-! numbers in lowest terms -/
theorem l_lowest {B : Nat} {a : Rat} (h : Bt B a) (hB : B ≤ 8000) : f__law_lowest [.pu (Nr a)] = .ok (Nr a, false) [.pu (Nr a)] := by
  have e1 : eLc [2] (iSeq (eVar 0)) (putN [] 2) (tOr' (tNot' (tOf (eV1 (fIsi [.int]) 2))) (tOf (eV1 (fIsi [.bool]) 2))) (eVar 2) [.pu (Nr a), .un, .un] = .ok (.lst [], true) [.pu (Nr a), .un, .un] := by
    have := eLc_gen (t := tOr' (tNot' (tOf (eV1 (fIsi [.int]) 2))) (tOf (eV1 (fIsi [.bool]) 2))) (e := eVar 2) (vs := [2]) (it := iSeq (eVar 0)) (put := putN [] 2) (st0 := [.pu (Nr a), .un, .un]) (st := [.pu (Nr a), .un, .un]) (fun z : Int => D.int z) (fun z => D.int z) (fun _ => false) (fun z => [.pu (Nr a), .un, .pu (.int z)]) [a.num, (a.den : Int)] (by rfl) (by simp) (fun z _ => by rfl) (fun z _ hc => by cases hc)
    rw [this]
    rfl
  have e2 : decide ((a.den : Int) = 0) = false := decide_eq_false (by have := a.den_nz; omega)
  have e3 := l_pair (p := a.num) (q := (a.den : Int)) (by have := a.den_nz; omega) (log_den (by rw [den_abs]; exact h.2) hB)
  have e4 : ((a.num : Int) : Rat) / (((a.den : Nat) : Int) : Rat) = a := by
    have := Rat.num_divInt_den a
    rw [Rat.divInt_eq_div] at this
    exact this
  have e5 : fEq false (.lst []) (.lst []) = some (.bl false, false) := rfl
  rw [e4] at e3
  clear e4 h hB
  unfold f__law_lowest r__law_lowest
  walk_at "rsh"
abbrev anIn : EvS := sIf (tOr' (tNot' (tOf (eV1 (fIsi [.tuple]) 3))) (tOr' (tOf (eBin (fEq false) (eV1 fLen 3) (eC (.int 2)))) (tNot' (tOf (eCallP (aCons (eVar 3) (aCons (eCallP (aCons (eVar 3) (aNil)) id f__law_lowest) (aNil))) id (f__law_same 8)))))) (sRet (eC (.bl false))) (sSkip)
theorem l_are {B n w : Nat} {M : Mx} (hl : M.length = w) (hw : ∀ r ∈ M, r.length = w ∧ ∀ a ∈ r, Bt B a) (hB : B ≤ 8000) (hn : w ≤ 100) : f__law_are_numbers [.pu (Mr M), .pu (.int (w : Int))] = .ok (.bl true, false) [.pu (Mr M), .pu (.int (w : Int))] := by
  obtain ⟨s', h1, x2, x3, rfl⟩ := sFor_gen (put := putN [] 2) (body := sSeq (sIf (tOr' (tNot' (tOf (eV1 (fIsi [.tuple]) 2))) (tOf (eBin (fEq false) (eV1 fLen 2) (eVar 1)))) (sRet (eC (.bl false))) (sSkip)) (sForI (putN [] 3) (iSeq (eVar 2)) anIn)) Rr (fun (_ : Unit) _ => ()) (fun _ st => ∃ x2 x3, st = [.pu (Mr M), .pu (.int (w : Int)), x2, x3]) M (by
    rintro r hr _ st ⟨x2, x3, rfl⟩
    obtain ⟨g1, g2⟩ := hw r hr
    obtain ⟨s', h2, x3', rfl⟩ := sFor_gen (put := putN [] 3) (body := anIn) Nr (fun (_ : Unit) _ => ()) (fun _ st => ∃ x3, st = [.pu (Mr M), .pu (.int (w : Int)), .pu (Rr r), x3]) r (by
      rintro a ha _ st ⟨x3, rfl⟩
      refine ⟨[.pu (Mr M), .pu (.int (w : Int)), .pu (Rr r), .pu (Nr a)], [.pu (Mr M), .pu (.int (w : Int)), .pu (Rr r), .pu (Nr a)], rfl, ?_, _, rfl⟩
      have l1 := l_lowest (g2 a ha) hB
      have l2 := same_one (pt_mono (pt_nr a) 7 (by decide))
      have l3 : decide (((2 : Nat) : Int) = 2) = true := rfl
      clear hw hl g1 g2 hr ha hB hn
      unfold anIn
      walk_at "rsh") () [.pu (Mr M), .pu (.int (w : Int)), .pu (Rr r), x3] ⟨_, rfl⟩
    refine ⟨[.pu (Mr M), .pu (.int (w : Int)), .pu (Rr r), x3], [.pu (Mr M), .pu (.int (w : Int)), .pu (Rr r), x3'], rfl, ?_, _, _, rfl⟩
    have l4 : fEq false (.int (((r.map Nr).length : Nat) : Int)) (.int (w : Int)) = some (.bl false, false) := by rw [fNeI_r, List.length_map, g1]; simp
    clear hw hl g1 g2 hr hB hn
    walk_at "rsh") () [.pu (Mr M), .pu (.int (w : Int)), .un, .un] ⟨_, _, rfl⟩
  have l4 : fEq false (.int (((M.map Rr).length : Nat) : Int)) (.int (w : Int)) = some (.bl false, false) := by rw [fNeI_r, List.length_map, hl]; simp
  clear hw hl hB hn
  unfold f__law_are_numbers r__law_are_numbers
  walk_at "rsh"
end G
end

end

section
set_option Elab.async false
set_option linter.all false
set_option maxRecDepth 100000
set_option maxHeartbeats 4000000
set_option exponentiation.threshold 10000
noncomputable section
namespace G
open PySem L2 TX
/-! wide -/
/-- the chance of an answer at least so far away -/
def fs (n : Nat) (p : Rat) (i d : Nat) : Rat := rsum (fun r => if d ≤ adf r i then stp n p i r else 0) (n + 1)
def mxs (f a : Rat) : Rat := if f < a then a else f
def wd (n : Nat) (p : Rat) (d : Nat) : Rat := ((List.range (n + 1)).map fun i => fs n p i d).foldl mxs 0
theorem filt_sum (f : Nat → Rat) (q : Nat → Bool) : ∀ L : List Nat, ((L.filter q).map f).sum = (L.map fun r => if q r = true then f r else 0).sum
  | [] => rfl
  | a :: L => by
    rw [List.filter_cons, List.map_cons, List.sum_cons, ← filt_sum f q L]
    cases q a with
    | true => rw [if_pos rfl, if_pos rfl, List.map_cons, List.sum_cons]
    | false => rw [if_neg (by decide), if_neg (by decide), Rat.zero_add]
theorem enum_map (f : Nat → D) (n : Nat) : enumD 0 ((List.range n).map f) = (List.range n).map fun k => .tup [.int ((k : Nat) : Int), f k] := by
  apply List.ext_getElem?
  intro i
  rw [enumD_get, Nat.zero_add, List.getElem?_map, List.getElem?_map]
  by_cases h : i < n
  · rw [List.getElem?_range h]; rfl
  · rw [List.getElem?_eq_none (by rw [List.length_range]; omega)]; rfl
theorem stp_bt' {p : Rat} (h : Rt 27 p) {n i r : Nat} (hn : n ≤ 9) (hi : i ≤ n) (hr : r ≤ n) : Bt 340 (stp n p i r) := stp_bt h (by omega) hi hr
theorem fs_bt {p : Rat} (h : Rt 27 p) {n i : Nat} (hn : n ≤ 9) (hi : i ≤ n) (d : Nat) : Bt 3411 (fs n p i d) := by
  refine (bt_sum (B := 340) _ fun a ha => ?_).mono (by rw [List.length_map, List.length_range]; omega)
  obtain ⟨r, hr, rfl⟩ := List.mem_map.mp ha
  have hr := List.mem_range.mp hr
  split
  · exact stp_bt' h hn hi (by omega)
  · exact bt_zero.mono (by omega)
theorem fs_nn {B : Nat} {p : Rat} (h : Rt B p) (n i d : Nat) : 0 ≤ fs n p i d := rsum_nn _ fun r _ => by
  split
  · exact stp_nn h n i r
  · exact Rat.le_refl
theorem n_far_off {p : Rat} (h : Rt 27 p) {n i d : Nat} (hn : n ≤ 9) (hi : i ≤ n) : f__chance_far_off [.pu (Rr ((List.range (n + 1)).map fun r => stp n p i r)), .pu (.int (i : Int)), .pu (.int (d : Int))] = .ok (Nr (fs n p i d), false) [.pu (Rr ((List.range (n + 1)).map fun r => stp n p i r)), .pu (.int (i : Int)), .pu (.int (d : Int))] := by
  have em : enumD 0 (((List.range (n + 1)).map fun r => stp n p i r).map Nr) = (List.range (n + 1)).map fun k => .tup [.int ((k : Nat) : Int), Nr (stp n p i k)] := by
    rw [List.map_map]
    exact enum_map (fun r => Nr (stp n p i r)) (n + 1)
  have e1 : eLc [3, 4] (iEnumD (eVar 0)) (putT [] [3, 4]) (tOf (eBin fGe (eUn fAbs (eBin fSub (eVar 3) (eVar 1))) (eVar 2))) (eVar 4) [.pu (Rr ((List.range (n + 1)).map fun r => stp n p i r)), .pu (.int (i : Int)), .pu (.int (d : Int)), .un, .un] = .ok (.lst (((List.range (n + 1)).filter fun r => decide (d ≤ adf r i)).map fun r => Nr (stp n p i r)), true) [.pu (Rr ((List.range (n + 1)).map fun r => stp n p i r)), .pu (.int (i : Int)), .pu (.int (d : Int)), .un, .un] :=
    eLc_gen (fun k : Nat => .tup [.int (k : Int), Nr (stp n p i k)]) (fun r => Nr (stp n p i r)) (fun r => decide (d ≤ adf r i)) (fun r => [.pu (Rr ((List.range (n + 1)).map fun r => stp n p i r)), .pu (.int (i : Int)), .pu (.int (d : Int)), .pu (.int (r : Int)), .pu (Nr (stp n p i r))]) (List.range (n + 1)) (by clear h hn hi; walk_at "rsh") (by rw [List.length_range]; omega) (fun r _ => by
      have a1 := adf_abs r i
      have a2 : decide ((d : Int) ≤ ((adf r i : Nat) : Int)) = decide (d ≤ adf r i) := decide_eq_decide.mpr (by omega)
      clear h hn hi em
      walk_at "rsh") fun r _ _ => ⟨false, by rfl⟩
  have e2 := n_total (B := 340) (d := .lst ((((List.range (n + 1)).filter fun r => decide (d ≤ adf r i)).map fun r => stp n p i r).map Nr)) (L := ((List.range (n + 1)).filter fun r => decide (d ≤ adf r i)).map fun r => stp n p i r) (.inl rfl) (by decide) (fun a ha => by
    obtain ⟨r, hr, rfl⟩ := List.mem_map.mp ha
    have hr := List.mem_range.mp (List.mem_filter.mp hr).1
    exact stp_bt' h hn hi (by omega)) (by
    have := List.length_filter_le (fun r => decide (d ≤ adf r i)) (List.range (n + 1))
    rw [List.length_range] at this
    rw [List.length_map]
    omega)
  have e3 : (((List.range (n + 1)).filter fun r => decide (d ≤ adf r i)).map fun r => stp n p i r).sum = fs n p i d := by
    rw [filt_sum]
    unfold fs rsum
    congr 1
    refine List.map_congr_left fun r _ => ?_
    by_cases hc : d ≤ adf r i
    · rw [if_pos hc, if_pos (decide_eq_true hc)]
    · rw [if_neg hc, if_neg (by simp [hc])]
  rw [e3, List.map_map] at e2
  have e4 : ((fun r => stp n p i r) : Nat → Rat) = fun r => stp n p i r := rfl
  clear h hn hi em e3 e4
  unfold f__chance_far_off r__chance_far_off
  simp only [Function.comp_def] at e2
  walk_at "rsh"
theorem n_not_empty {L : List Rat} (hne : L ≠ []) : f__check_not_empty [.pu (.lst (L.map Nr))] = .ok (.non, false) [.pu (.lst (L.map Nr))] := by
  have e1 : f__check_all [.pu (.lst (L.map Nr))] = .ok (.non, false) [.pu (.lst (L.map Nr))] := by
    have := run_checkR (d := .lst (L.map Nr)) (L := L.map ofR) (by unfold Row; rw [np_ofR]; exact .inl rfl) (fun u hu => by
      obtain ⟨a, _, rfl⟩ := List.mem_map.mp hu
      exact nb_ofR a)
    exact this
  have e2 : decide (((L.map Nr).length : Int) = 0) = false := decide_eq_false (by
    rw [List.length_map]
    have := List.length_pos_iff.mpr hne
    omega)
  clear hne
  unfold f__check_not_empty r__check_not_empty
  walk_at "rsh"
theorem mxs_mem : ∀ (L : List Rat) (f : Rat) (P : Rat → Prop), P f → (∀ a ∈ L, P a) → P (L.foldl mxs f)
  | [], f, P, hf, _ => hf
  | a :: L, f, P, hf, h => mxs_mem L (mxs f a) P (by unfold mxs; split; exact h a List.mem_cons_self; exact hf) fun b hb => h b (List.mem_cons_of_mem _ hb)
theorem n_greatest {B : Nat} {x : Rat} {L : List Rat} (hB : B ≤ 4000) (h : ∀ a ∈ x :: L, Bt B a) : f_greatest [.pu (.lst ((x :: L).map Nr))] = .ok (Nr ((x :: L).foldl mxs x), false) [.pu (.lst ((x :: L).map Nr))] := by
  have e1 := n_not_empty (L := x :: L) (by simp)
  have e2 : fIx (.lst ((x :: L).map Nr)) (.int 0) = some (Nr x, false) := ix_l0
  obtain ⟨s', h1, _, x2, rfl⟩ := sFor_gen (put := putN [] 2) (body := sIf (tOf (eCallP (aCons (eVar 1) (aCons (eVar 2) (aNil))) id f__is_less)) (sSet [] 1 (eVar 2)) (sSkip)) Nr mxs (fun f st => Bt B f ∧ ∃ x2, st = [.pu (.lst ((x :: L).map Nr)), .pu (Nr f), x2]) (x :: L) (by
    rintro a ha f st ⟨hf, x2, rfl⟩
    have l1 := n_less hf (h a ha) (by omega)
    refine ⟨[.pu (.lst ((x :: L).map Nr)), .pu (Nr f), .pu (Nr a)], [.pu (.lst ((x :: L).map Nr)), .pu (Nr (mxs f a)), .pu (Nr a)], rfl, ?_, by unfold mxs; split; exact h a ha; exact hf, _, rfl⟩
    unfold mxs
    by_cases hc : f < a
    · rw [decide_eq_true hc] at l1
      rw [if_pos hc]
      clear h hB hf hc ha e1 e2
      generalize (x :: L).map Nr = Z
      walk_at "rsh"
    · rw [decide_eq_false hc] at l1
      rw [if_neg hc]
      clear h hB hf hc ha e1 e2
      generalize (x :: L).map Nr = Z
      walk_at "rsh") x [.pu (.lst ((x :: L).map Nr)), .pu (Nr x), .un] ⟨h x List.mem_cons_self, _, rfl⟩
  clear h hB
  generalize (x :: L).foldl mxs x = r at *
  generalize (x :: L).map Nr = Z at *
  unfold f_greatest r_greatest
  walk_at "rsh"
theorem n_wide {p : Rat} (h : Rt 27 p) {n d : Nat} (hn : n ≤ 9) : f_wide [.pu (.int (n : Int)), .pu (Nr p), .pu (.int (d : Int))] = .ok (Nr (wd n p d), false) [.pu (.int (n : Int)), .pu (Nr p), .pu (.int (d : Int))] := by
  have c1 := n_check_count n
  have c2 := n_check_ratio h
  have c3 := n_check_count d
  have e1 : eLc [3] (iRng (eBin fAdd (eVar 0) (eC (.int 1)))) (putN [] 3) (tTrue) (eCallP (aCons (eCallP (aCons (eVar 0) (aCons (eVar 1) (aCons (eVar 3) (aNil)))) id f__row) (aCons (eVar 3) (aCons (eVar 2) (aNil)))) id f__chance_far_off) [.pu (.int (n : Int)), .pu (Nr p), .pu (.int (d : Int)), .un] = .ok (.lst ((List.range (n + 1)).map fun i => Nr (fs n p i d)), true) [.pu (.int (n : Int)), .pu (Nr p), .pu (.int (d : Int)), .un] :=
    eLc_map (fun (k : Nat) => D.int (k : Int)) (fun i => Nr (fs n p i d)) (fun r => [.pu (.int (n : Int)), .pu (Nr p), .pu (.int (d : Int)), .pu (.int (r : Int))]) (List.range (n + 1)) (by have := fun st => rng_n1 (st := st) (n := n) (by omega); clear h hn; walk_at "rsh") (by rw [List.length_range]; omega) fun i hi => ⟨false, by
      have hi := List.mem_range.mp hi
      have r1 := n_row h (by decide) (n := n) (i := i) (by omega) (by omega)
      have r2 := n_far_off h (d := d) hn (i := i) (by omega)
      clear h hi hn c1 c2 c3
      walk_at "rsh"⟩
  have e2 : ((List.range (n + 1)).map fun i => Nr (fs n p i d)) = ((List.range (n + 1)).map fun i => fs n p i d).map Nr := by rw [List.map_map]; rfl
  have e3 : (List.range (n + 1)).map (fun i => fs n p i d) = fs n p 0 d :: (List.range n).map (fun i => fs n p (i + 1) d) := by rw [List.range_succ_eq_map, List.map_cons, List.map_map]; rfl
  have e4 := n_greatest (B := 3411) (by decide) (x := fs n p 0 d) (L := (List.range n).map (fun i => fs n p (i + 1) d)) fun a ha => by
    rw [← e3] at ha
    obtain ⟨i, hi, rfl⟩ := List.mem_map.mp ha
    have hi := List.mem_range.mp hi
    exact fs_bt h hn (by omega) d
  have e5 : (fs n p 0 d :: (List.range n).map (fun i => fs n p (i + 1) d)).foldl mxs (fs n p 0 d) = wd n p d := by
    unfold wd
    have key : mxs (fs n p 0 d) (fs n p 0 d) = mxs 0 (fs n p 0 d) := by
      have := fs_nn h n 0 d
      generalize fs n p 0 d = x at *
      unfold mxs
      rw [if_neg Rat.lt_irrefl]
      split
      · rfl
      · grind
    rw [e3, List.foldl_cons, List.foldl_cons, key]
  rw [e5, ← e3] at e4
  rw [e2] at e1
  clear h hn e2 e3 e5
  unfold f_wide r_wide
  walk_at "rsh"
end G
end

end

section
set_option Elab.async false
set_option linter.all false
set_option maxRecDepth 100000
set_option maxHeartbeats 4000000
set_option exponentiation.threshold 10000
noncomputable section
namespace G
open PySem L2 TX
theorem lad_at {n i : Nat} {p : Rat} (hi : i ≤ n) : fIx (Mr (lad n p)) (.int (i : Int)) = some (Rr ((List.range (n + 1)).map fun r => stp n p i r), false) := by
  have hi' : i < (lad n p).length := by rw [lad_len]; omega
  have e := lad_get (n := n) (i := i) (p := p) hi
  rw [List.getElem?_eq_getElem hi'] at e
  rw [← Option.some.inj e]
  exact ix_tm hi'
theorem row_at {n i r : Nat} {p : Rat} (hr : r ≤ n) : fIx (Rr ((List.range (n + 1)).map fun r => stp n p i r)) (.int (r : Int)) = some (Nr (stp n p i r), false) := by
  have hk : r < ((List.range (n + 1)).map fun r => stp n p i r).length := by rw [List.length_map, List.length_range]; omega
  have e : ((List.range (n + 1)).map fun r => stp n p i r)[r] = stp n p i r := by rw [List.getElem_map, List.getElem_range]
  rw [← e]
  exact ix_tm hk
abbrev lwIn : EvS := sIf (tOf (eBin fGe (eUn fAbs (eBin fSub (eVar 5) (eVar 3))) (eVar 1))) (sSet [] 4 (eCallP (aCons (eVar 4) (aCons (eBin fIx (eIxV 0 (eVar 3)) (eVar 5)) (aNil))) id f__law_plus)) (sSkip)
abbrev lwOut : EvS := sSeq (sSet [] 4 (eTup (aCons (eC (.int 0)) (aCons (eC (.int 1)) (aNil))))) (sSeq (sForI (putN [] 5) (iRng (eV1 fLen 0)) lwIn) (sIf (tOf (eCallP (aCons (eVar 2) (aCons (eVar 4) (aNil))) id f__law_less)) (sSet [] 2 (eVar 4)) (sSkip)))
theorem lw_in {p : Rat} (h : Rt 27 p) {n d j : Nat} (hn : n ≤ 9) (hj : j ≤ n) {x2 : Sl} : ∀ (L : List Nat) (t : Rat) (K : Nat) (x5 : Sl), (∀ k ∈ L, k ≤ n) → Bt K t → K + 341 * L.length ≤ 7000 → ∃ y5, sFor (putN [] 5) lwIn (L.map fun (k : Nat) => D.int (k : Int)) [.pu (Mr (lad n p)), .pu (.int (d : Int)), x2, .pu (.int (j : Int)), .pu (Nr t), x5] = .nx [.pu (Mr (lad n p)), .pu (.int (d : Int)), x2, .pu (.int (j : Int)), .pu (Nr (t + (L.map fun r => if d ≤ adf r j then stp n p j r else 0).sum)), y5]
  | [], t, K, x5, _, _, _ => ⟨x5, by simp only [List.map_nil, List.sum_nil, Rat.add_zero]; rfl⟩
  | k :: L, t, K, x5, hL, ht, hk => by
    have hkn := hL k List.mem_cons_self
    rw [List.length_cons] at hk
    have i1 := lad_at (p := p) hj
    have i2 := row_at (i := j) (p := p) hkn
    have a1 := adf_abs k j
    have b1 := stp_bt' h hn hj hkn
    by_cases hc : d ≤ adf k j
    · have a2 : decide ((d : Int) ≤ ((adf k j : Nat) : Int)) = true := decide_eq_true (by omega)
      have l1 := l_plus ht b1 (by omega)
      obtain ⟨y5, hy⟩ := lw_in h (d := d) hn hj (x2 := x2) L (t + stp n p j k) (K + 340 + 1) (.pu (.int (k : Int))) (fun j hj => hL j (List.mem_cons_of_mem _ hj)) (bt_add ht b1) (by omega)
      refine ⟨y5, ?_⟩
      rw [List.map_cons, List.map_cons, List.sum_cons, if_pos hc, ← Rat.add_assoc]
      refine sFor_cons (st1 := [.pu (Mr (lad n p)), .pu (.int (d : Int)), x2, .pu (.int (j : Int)), .pu (Nr t), .pu (.int (k : Int))]) rfl ?_ hy
      clear hy hc hL ht hk hkn b1 h hn hj
      unfold lwIn
      walk_at "rsh"
    · have a2 : decide ((d : Int) ≤ ((adf k j : Nat) : Int)) = false := decide_eq_false (by omega)
      obtain ⟨y5, hy⟩ := lw_in h (d := d) hn hj (x2 := x2) L t K (.pu (.int (k : Int))) (fun j hj => hL j (List.mem_cons_of_mem _ hj)) ht (by omega)
      refine ⟨y5, ?_⟩
      rw [List.map_cons, List.map_cons, List.sum_cons, if_neg hc, Rat.zero_add]
      refine sFor_cons (st1 := [.pu (Mr (lad n p)), .pu (.int (d : Int)), x2, .pu (.int (j : Int)), .pu (Nr t), .pu (.int (k : Int))]) rfl ?_ hy
      clear hy hc hL ht hk hkn b1 h hn hj
      unfold lwIn
      walk_at "rsh"
theorem l_wide {p : Rat} (h : Rt 27 p) {n d : Nat} (hn : n ≤ 9) : f__law_wide [.pu (Mr (lad n p)), .pu (.int (d : Int))] = .ok (Nr (wd n p d), false) [.pu (Mr (lad n p)), .pu (.int (d : Int))] := by
  have hl : (lad n p).length = n + 1 := lad_len n p
  have rg : ∀ st, rngI (.int (((lad n p).map Rr).length : Int)) st = .ok ((List.range (n + 1)).map fun (k : Nat) => D.int (k : Int)) st := fun st => by
    rw [List.length_map, hl, rngI_ok (by omega), Int.toNat_natCast, rng0]
  have n0 : D.tup [.int 0, .int 1] = Nr 0 := rfl
  obtain ⟨s', h1, _, x3, x4, x5, rfl⟩ := sFor_gen (put := putN [] 3) (body := lwOut) (fun (k : Nat) => D.int (k : Int)) (fun f i => mxs f (fs n p i d)) (fun f st => Bt 3411 f ∧ ∃ x3 x4 x5, st = [.pu (Mr (lad n p)), .pu (.int (d : Int)), .pu (Nr f), x3, x4, x5]) (List.range (n + 1)) (by
    rintro j hj f st ⟨hf, x3, x4, x5, rfl⟩
    have hj := List.mem_range.mp hj
    obtain ⟨y5, hy⟩ := lw_in h (n := n) (d := d) (j := j) hn (by omega) (x2 := .pu (Nr f)) (List.range (n + 1)) 0 1 x5 (fun k hk => by have := List.mem_range.mp hk; omega) bt_zero (by rw [List.length_range]; omega)
    rw [Rat.zero_add] at hy
    have e : ((List.range (n + 1)).map fun r => if d ≤ adf r j then stp n p j r else 0).sum = fs n p j d := rfl
    rw [e] at hy
    have hb := fs_bt h hn (i := j) (by omega) d
    have l1 := l_less hf hb (by omega)
    refine ⟨[.pu (Mr (lad n p)), .pu (.int (d : Int)), .pu (Nr f), .pu (.int (j : Int)), x4, x5], [.pu (Mr (lad n p)), .pu (.int (d : Int)), .pu (Nr (mxs f (fs n p j d))), .pu (.int (j : Int)), .pu (Nr (fs n p j d)), y5], rfl, ?_, by unfold mxs; split; exact hb; exact hf, _, _, _, rfl⟩
    unfold mxs
    generalize fs n p j d = a at *
    by_cases hc : f < a
    · rw [decide_eq_true hc] at l1
      rw [if_pos hc]
      clear h hf hc hj e hb hl hn
      unfold lwOut
      walk_at "rsh"
    · rw [decide_eq_false hc] at l1
      rw [if_neg hc]
      clear h hf hc hj e hb hl hn
      unfold lwOut
      walk_at "rsh") 0 [.pu (Mr (lad n p)), .pu (.int (d : Int)), .pu (Nr 0), .un, .un, .un] ⟨bt_zero.mono (by decide), _, _, _, rfl⟩
  have e : (List.range (n + 1)).foldl (fun f i => mxs f (fs n p i d)) 0 = wd n p d := by unfold wd; rw [List.foldl_map]
  rw [e] at h1
  clear h hl hn e
  unfold f__law_wide r__law_wide
  walk_at "rsh"
/-! what is known of it -/
theorem fs_mono {B : Nat} {p : Rat} (h : Rt B p) (n i d : Nat) : fs n p i (d + 1) ≤ fs n p i d := rsum_le _ fun r _ => by
  have := stp_nn h n i r
  split
  · rw [if_pos (by omega)]; exact Rat.le_refl
  · split
    · exact this
    · exact Rat.le_refl
theorem fold_mono (f g : Nat → Rat) : ∀ (L : List Nat) (a b : Rat), a ≤ b → (∀ i ∈ L, f i ≤ g i) → (L.map f).foldl mxs a ≤ (L.map g).foldl mxs b
  | [], a, b, h, _ => h
  | i :: L, a, b, h, hl => by
    rw [List.map_cons, List.map_cons, List.foldl_cons, List.foldl_cons]
    refine fold_mono f g L _ _ ?_ fun j hj => hl j (List.mem_cons_of_mem _ hj)
    have := hl i List.mem_cons_self
    unfold mxs
    split <;> split <;> grind
theorem wd_mono {B : Nat} {p : Rat} (h : Rt B p) (n d : Nat) : decide (wd n p d < wd n p (d + 1)) = false := decide_eq_false (Rat.not_lt.mpr (fold_mono _ _ _ _ _ Rat.le_refl fun i _ => fs_mono h n i d))
theorem fold_const (c : Rat) (hc : 0 ≤ c) (f : Nat → Rat) : ∀ (L : List Nat) (a : Rat), (∀ i ∈ L, f i = c) → (a = c ∨ (a = 0 ∧ L ≠ [])) → (L.map f).foldl mxs a = c
  | [], a, _, h => h.resolve_right fun z => z.2 rfl
  | i :: L, a, hl, h => by
    rw [List.map_cons, List.foldl_cons]
    refine fold_const c hc f L _ (fun j hj => hl j (List.mem_cons_of_mem _ hj)) (.inl ?_)
    rw [hl i List.mem_cons_self]
    unfold mxs
    rcases h with rfl | ⟨rfl, _⟩
    · rw [if_neg Rat.lt_irrefl]
    · split
      · rfl
      · grind
theorem wd_zero {B : Nat} {p : Rat} (h : Rt B p) (n : Nat) : wd n p 0 = 1 := fold_const 1 (by decide) _ _ _ (fun i hi => by
  have hi := List.mem_range.mp hi
  have e : fs n p i 0 = rsum (fun r => stp n p i r) (n + 1) := rsum_congr _ fun r _ => if_pos (by omega)
  rw [e]
  exact row_sum h (by omega)) (.inr ⟨rfl, by simp⟩)
theorem wd_end {B : Nat} {p : Rat} (h : Rt B p) (n : Nat) : wd n p (n + 1) = 0 := fold_const 0 (by decide) _ _ _ (fun i hi => by
  have hi := List.mem_range.mp hi
  have e : fs n p i (n + 1) = rsum (fun r => 0 * stp n p i r) (n + 1) := rsum_congr _ fun r hr => by rw [if_neg (by unfold adf; omega), Rat.zero_mul]
  rw [e, rsum_mul, Rat.zero_mul]) (.inr ⟨rfl, by simp⟩)
theorem wd_bt {p : Rat} (h : Rt 27 p) {n : Nat} (hn : n ≤ 9) (d : Nat) : Bt 3411 (wd n p d) := mxs_mem _ _ (Bt 3411) (bt_zero.mono (by decide)) fun a ha => by
  obtain ⟨i, hi, rfl⟩ := List.mem_map.mp ha
  have hi := List.mem_range.mp hi
  exact fs_bt h hn (by omega) d
end G
end

end

section
set_option Elab.async false
set_option linter.all false
set_option maxRecDepth 100000
set_option maxHeartbeats 8000000
set_option exponentiation.threshold 10000
noncomputable section
namespace G
open PySem L2 TX
abbrev rrTail : EvS := sSeq (sPar [0] 3 4 (aCons (eCallP (aCons (eVar 1) (aCons (eVar 2) (aNil))) id f_ladder) (aCons (eCallP (aCons (eVar 1) (aCons (eVar 2) (aNil))) id f_unladder) (aNil)))) (sSeq (sIf (tOr' (tNot' (tOf (eCallP (aCons (eCallK aNil (aCons (eVar 2) (aCons (eVar 1) (aNil))) 2 0 pm_unladder_0_ratio_n f_unladder) (aCons (eVar 4) (aNil))) id (f__law_same 8)))) (tNot' (tOf (eCallP (aCons (eVar 4) (aCons (eBin fAdd (eVar 1) (eC (.int 1))) (aNil))) id f__law_are_numbers)))) (sRet (eC (.bl false))) (sSkip)) (sSeq (sSet [0] 5 (eUn fTuple (eLc [11] (iRng (eBin fAdd (eVar 1) (eC (.int 1)))) (putN [] 11) (tTrue) (eCallP (aCons (eVar 1) (aCons (eVar 11) (aNil))) id f__law_unit)))) (sSeq (sIf (tNot' (tOf (eCallP (aCons (eLst (aCons (eCallP (aCons (eVar 3) (aCons (eVar 4) (aNil))) id f__law_product) (aCons (eCallP (aCons (eVar 4) (aCons (eVar 3) (aNil))) id f__law_product) (aNil)))) (aCons (eLst (aCons (eVar 5) (aCons (eVar 5) (aNil)))) (aNil))) id (f__law_same 8)))) (sRet (eC (.bl false))) (sSkip)) (sSeq (sSet [0] 6 (eBin fAdd (eC (.int 1)) (eCallA (.io 0 :: .v (eC (.int 3)) :: []) f__law_take))) (sSeq (sSet [0] 7 (eUn fTuple (eLc [12] (iRng (eBin fAdd (eVar 1) (eC (.int 1)))) (putN [] 12) (tTrue) (eCallP (aCons (eCallA (.io 0 :: .v (eVar 6) :: []) f__law_weights) (aNil)) id f__law_shares)))) (sSeq (sIf (tNot' (tOf (eCallP (aCons (eCallP (aCons (eVar 4) (aCons (eCallP (aCons (eVar 3) (aCons (eVar 7) (aNil))) id f_read_by) (aNil))) id f__law_product) (aCons (eVar 7) (aNil))) id (f__law_same 8)))) (sRet (eC (.bl false))) (sSkip)) (sSeq (sSet [0] 8 (eCallA (.io 0 :: .v (eBin fAdd (eVar 1) (eC (.int 3))) :: []) f__law_take)) (sSeq (sPar [0] 9 10 (aCons (eCallP (aCons (eVar 3) (aCons (eVar 8) (aNil))) id f__law_wide) (aCons (eCallP (aCons (eVar 3) (aCons (eBin fAdd (eVar 8) (eC (.int 1))) (aNil))) id f__law_wide) (aNil)))) (sSeq (sIf (tOr' (tNot' (tOf (eCallP (aCons (eLst (aCons (eCallP (aCons (eVar 1) (aCons (eVar 2) (aCons (eVar 8) (aNil)))) id f_wide) (aCons (eCallK aNil (aCons (eVar 8) (aCons (eVar 2) (aCons (eVar 1) (aNil)))) 3 0 pm_wide_0_far_ratio_n f_wide) (aNil)))) (aCons (eLst (aCons (eVar 9) (aCons (eVar 9) (aNil)))) (aNil))) id (f__law_same 8)))) (tOf (eCallP (aCons (eVar 9) (aCons (eVar 10) (aNil))) id f__law_less))) (sRet (eC (.bl false))) (sSkip)) (sSeq (sSet [0] 9 (eCallP (aCons (eCallP (aCons (eVar 1) (aCons (eTup (aCons (eC (.int 1)) (aCons (eC (.int 1)) (aNil)))) (aNil))) id f_ladder) (aCons (eVar 8) (aNil))) id f__law_wide)) (sSeq (sIf (tNot' (tOf (eCallP (aCons (eLst (aCons (eCallP (aCons (eVar 1) (aCons (eTup (aCons (eC (.int 1)) (aCons (eC (.int 1)) (aNil)))) (aCons (eVar 8) (aNil)))) id f_wide) (aCons (eCallK aNil (aCons (eVar 8) (aCons (eTup (aCons (eC (.int 1)) (aCons (eC (.int 1)) (aNil)))) (aCons (eVar 1) (aNil)))) 3 0 pm_wide_0_far_ratio_n f_wide) (aNil)))) (aCons (eLst (aCons (eVar 9) (aCons (eVar 9) (aNil)))) (aNil))) id (f__law_same 8)))) (sRet (eC (.bl false))) (sSkip)) (sRet (eCallP (aCons (eLst (aCons (eCallP (aCons (eVar 1) (aCons (eVar 2) (aCons (eC (.int 0)) (aNil)))) id f_wide) (aCons (eCallP (aCons (eVar 1) (aCons (eVar 2) (aCons (eBin fAdd (eVar 1) (eC (.int 1))) (aNil)))) id f_wide) (aNil)))) (aCons (eLst (aCons (eTup (aCons (eC (.int 1)) (aCons (eC (.int 1)) (aNil)))) (aCons (eTup (aCons (eC (.int 0)) (aCons (eC (.int 1)) (aNil)))) (aNil)))) (aNil))) id (f__law_same 8))))))))))))))
theorem mat_len {a b : Nat} (f : Nat → Nat → Rat) : (mat a b f).length = a := by unfold mat; rw [List.length_map, List.length_range]
theorem mat_row {a b : Nat} {f : Nat → Nat → Rat} {P : Rat → Prop} (h : ∀ i s, i < a → s < b → P (f i s)) : ∀ r ∈ mat a b f, r.length = b ∧ ∀ x ∈ r, P x := fun r hr => by
  obtain ⟨i, hi, rfl⟩ := List.mem_map.mp hr
  have hi := List.mem_range.mp hi
  refine ⟨by rw [List.length_map, List.length_range], fun x hx => ?_⟩
  obtain ⟨s, hs, rfl⟩ := List.mem_map.mp hx
  exact h i s hi (List.mem_range.mp hs)
theorem inv_bt {n : Nat} {p : Rat} (h : Rt 27 p) (h1 : n = 0 ∨ p < 1) (r k : Nat) : Bt 114 (inv n p r k) := by
  unfold inv
  split
  · exact bt_one.mono (by decide)
  · rename_i hn
    split
    · exact bt_ivc h.bt (h1.resolve_left hn) n r k
    · exact bt_zero.mono (by decide)
theorem lad_mat (n : Nat) (p : Rat) : lad n p = mat (n + 1) (n + 1) (stp n p) := rfl
theorem inm_mat (n : Nat) (p : Rat) : inm n p = mat (n + 1) (n + 1) (inv n p) := rfl
theorem idm_mat (n : Nat) : idm n = mat (n + 1) (n + 1) fun i s => if i = s then 1 else 0 := rfl
theorem mat_congr {a b : Nat} {f g : Nat → Nat → Rat} (h : ∀ i s, i < a → s < b → f i s = g i s) : mat a b f = mat a b g := List.map_congr_left fun i hi => List.map_congr_left fun s hs => h i s (List.mem_range.mp hi) (List.mem_range.mp hs)
theorem mat_ne {a b : Nat} (f : Nat → Nat → Rat) : mat (a + 1) b f ≠ [] := fun z => by have := mat_len (a := a + 1) (b := b) f; rw [z] at this; simp at this
theorem p_fore {n : Nat} {p : Rat} (h : Rt 27 p) (h1 : n = 0 ∨ p < 1) (hn : n ≤ 9) : f__law_product [.pu (Mr (lad n p)), .pu (Mr (inm n p))] = .ok (Mr (idm n), false) [.pu (Mr (lad n p)), .pu (Mr (inm n p))] := by
  have e : prm (lad n p) (inm n p) (n + 1) = idm n := by
    rw [lad_mat, inm_mat, prm_mat, idm_mat]
    exact mat_congr fun i s hi hs => fore h h1 (by omega) (by omega)
  rw [← e, lad_mat, inm_mat]
  have r1 := mat_row (a := n + 1) (b := n + 1) (f := stp n p) (P := Bt 340) fun i s hi hs => stp_bt' h hn (by omega) (by omega)
  have r2 := mat_row (a := n + 1) (b := n + 1) (f := inv n p) (P := Bt 114) fun i s hi hs => inv_bt h h1 i s
  exact l_product (fun r hr => ⟨by rw [mat_len]; exact (r1 r hr).1, (r1 r hr).2⟩) (by rw [mat_len]; omega) (fun r hr => (r2 r hr).2) (mat_ne _) (by rw [mat_len]; omega) (fun r hr => (r2 r hr).1) (by omega) (by rw [mat_len]; omega)
theorem p_back {n : Nat} {p : Rat} (h : Rt 27 p) (h1 : n = 0 ∨ p < 1) (hn : n ≤ 9) : f__law_product [.pu (Mr (inm n p)), .pu (Mr (lad n p))] = .ok (Mr (idm n), false) [.pu (Mr (inm n p)), .pu (Mr (lad n p))] := by
  have e : prm (inm n p) (lad n p) (n + 1) = idm n := by
    rw [lad_mat, inm_mat, prm_mat, idm_mat]
    exact mat_congr fun i s hi hs => back h h1 (by omega) (by omega)
  rw [← e, lad_mat, inm_mat]
  have r1 := mat_row (a := n + 1) (b := n + 1) (f := stp n p) (P := Bt 340) fun i s hi hs => stp_bt' h hn (by omega) (by omega)
  have r2 := mat_row (a := n + 1) (b := n + 1) (f := inv n p) (P := Bt 114) fun i s hi hs => inv_bt h h1 i s
  exact l_product (fun r hr => ⟨by rw [mat_len]; exact (r2 r hr).1, (r2 r hr).2⟩) (by rw [mat_len]; omega) (fun r hr => (r1 r hr).2) (mat_ne _) (by rw [mat_len]; omega) (fun r hr => (r1 r hr).1) (by omega) (by rw [mat_len]; omega)
theorem mul_len (P Q : Mx) (w : Nat) : (mulM P Q w).length = P.length := by unfold mulM; rw [List.length_map]
theorem p_read {u v : Int} (h0 : 1 ≤ u) (h2 : u ≤ v) (h3 : v < 2 ^ 27) {n c : Nat} (h1 : n = 0 ∨ (u : Rat) / (v : Rat) < 1) (hn : n ≤ 9) (hc : c ≤ 3) {M : Mx} (hl : M.length = n + 1) (hg : ∀ r ∈ M, GRow c r) : f__law_product [.pu (Mr (inm n ((u : Rat) / (v : Rat)))), .pu (Mr (mulM (lad n ((u : Rat) / (v : Rat))) M c))] = .ok (Mr M, false) [.pu (Mr (inm n ((u : Rat) / (v : Rat)))), .pu (Mr (mulM (lad n ((u : Rat) / (v : Rat))) M c))] := by
  have h := rt_div h0 h2 h3
  have hw : ∀ r ∈ M, r.length = c := fun r hr => by
    obtain ⟨L, hw, _, e⟩ := hg r hr
    rw [e, List.length_map, hw.len]
  have rb := read_bt h0 h2 h3 hn hc hl hg
  have bk := back_read h h1 hl hw
  generalize (u : Rat) / (v : Rat) = p at *
  have l1 : (mulM (lad n p) M c).length = n + 1 := by rw [mul_len, lad_len]
  have r2 := mat_row (a := n + 1) (b := n + 1) (f := inv n p) (P := Bt 114) fun i s hi hs => inv_bt h h1 i s
  rw [← inm_mat] at r2
  have := l_product (P := inm n p) (Q := mulM (lad n p) M c) (v := c) (B := 114) (C := 520) (fun r hr => ⟨by rw [l1]; exact (r2 r hr).1, (r2 r hr).2⟩) (by rw [inm_mat, mat_len]; omega) (fun r hr => (rb r hr).2) (fun z => by rw [z] at l1; simp at l1) (by rw [l1]; omega) (fun r hr => (rb r hr).1) (by omega) (by rw [l1]; omega)
  rw [bk] at this
  exact this
theorem units {n : Nat} (hn : n ≤ 9) {x0 x2 x3 x4 x5 x6 x7 x8 x9 x10 x12 : Sl} : eLc [11] (iRng (eBin fAdd (eVar 1) (eC (.int 1)))) (putN [] 11) (tTrue) (eCallP (aCons (eVar 1) (aCons (eVar 11) (aNil))) id f__law_unit) [x0, .pu (.int (n : Int)), x2, x3, x4, x5, x6, x7, x8, x9, x10, .un, x12] = .ok (.lst ((idm n).map Rr), true) [x0, .pu (.int (n : Int)), x2, x3, x4, x5, x6, x7, x8, x9, x10, .un, x12] := by
  have e : (idm n).map Rr = (List.range (n + 1)).map fun j => Rr (unr n j) := by unfold idm; rw [List.map_map]; rfl
  rw [e]
  exact eLc_map (fun (k : Nat) => D.int (k : Int)) (fun j => Rr (unr n j)) (fun j => [x0, .pu (.int (n : Int)), x2, x3, x4, x5, x6, x7, x8, x9, x10, .pu (.int (j : Int)), x12]) (List.range (n + 1)) (by have := fun st => rng_n1 (st := st) (n := n) (by omega); clear hn e; walk_at "rsh") (by rw [List.length_range]; omega) fun j hj => ⟨false, by
    have := l_unit (n := n) (j := j) (by omega)
    clear hn e hj
    walk_at "rsh"⟩
theorem guide {n c : Nat} {l : List D} (hl : Dk l) (hn : n ≤ 9) (h0 : 0 < c) (hc : c ≤ 3) {x2 x3 x4 x5 x7 x8 x9 x10 x11 : Sl} : ∃ (M : Mx) (l' : List D), eLc [12] (iRng (eBin fAdd (eVar 1) (eC (.int 1)))) (putN [] 12) (tTrue) gdE [.ow l, .pu (.int (n : Int)), x2, x3, x4, x5, .pu (.int (c : Int)), x7, x8, x9, x10, x11, .un] = .ok (.lst (M.map Rr), true) [.ow l', .pu (.int (n : Int)), x2, x3, x4, x5, .pu (.int (c : Int)), x7, x8, x9, x10, x11, .un] ∧ Dk l' ∧ M.length = n + 1 ∧ ∀ r ∈ M, GRow c r := by
  obtain ⟨M, l', y, hy, d, hm, hg, hyn⟩ := guide_loop h0 hc (x1 := .pu (.int (n : Int))) (x2 := x2) (x3 := x3) (x4 := x4) (x5 := x5) (x7 := x7) (x8 := x8) (x9 := x9) (x10 := x10) (x11 := x11) ((List.range (n + 1)).map fun (k : Nat) => D.int (k : Int)) l .un hl (fun _ z => by cases z)
  rw [List.length_map, List.length_range] at hm
  refine ⟨M, l', ?_, d, hm, hg⟩
  have hi : iRng (eBin fAdd (eVar 1) (eC (.int 1))) [.ow l, .pu (.int (n : Int)), x2, x3, x4, x5, .pu (.int (c : Int)), x7, x8, x9, x10, x11, .un] = .ok ((List.range (n + 1)).map fun (k : Nat) => D.int (k : Int)) [.ow l, .pu (.int (n : Int)), x2, x3, x4, x5, .pu (.int (c : Int)), x7, x8, x9, x10, x11, .un] := by
    have := fun st => rng_n1 (st := st) (n := n) (by omega)
    clear hy hm hg hyn hl d hn h0 hc
    walk_at "rsh"
  exact eLc_r hi ⟨rfl, by rw [List.length_map, List.length_range]; omega⟩ hy rfl rfl
end G
end

end

section
set_option Elab.async false
set_option linter.all false
set_option maxRecDepth 100000
set_option maxHeartbeats 8000000
set_option exponentiation.threshold 10000
noncomputable section
namespace G
open PySem L2 TX
theorem run_tail {l : List D} (hl : Dk l) {u v : Int} (h0 : 1 ≤ u) (h2 : u ≤ v) (h3 : v < 2 ^ 27) {n : Nat} (h1 : n = 0 ∨ u < v) (hn : n ≤ 9) : ∃ l' s', rrTail [.ow l, .pu (.int (n : Int)), .pu (Nr ((u : Rat) / (v : Rat))), .un, .un, .un, .un, .un, .un, .un, .un, .un, .un] = .rt (.bl true, false) (.ow l' :: s') := by
  have hp := rt_div h0 h2 h3
  have hlt : n = 0 ∨ (u : Rat) / (v : Rat) < 1 := h1.imp_right fun h => by
    have hv : (0 : Rat) < (v : Rat) := by have := Rat.intCast_lt_intCast.mpr (show (0 : Int) < v by omega); exact this
    refine (Rat.div_lt_iff hv).mpr ?_
    rw [Rat.one_mul]
    exact Rat.intCast_lt_intCast.mpr h
  obtain ⟨c0, l1, t1, c1, c2, d1⟩ := take_k hl (m := 3) (by decide) (by decide)
  obtain ⟨c, hc⟩ : ∃ c : Nat, 1 + c0 = (c : Int) := ⟨(1 + c0).toNat, by omega⟩
  have sP := sch_lad hp (n := n) (by omega)
  obtain ⟨M, l2, g1, d2, hm, hg⟩ := guide d1 hn (c := c) (by omega) (by omega) (x2 := .pu (Nr ((u : Rat) / (v : Rat)))) (x3 := .pu (Mr (lad n ((u : Rat) / (v : Rat))))) (x4 := .pu (Mr (inm n ((u : Rat) / (v : Rat))))) (x5 := .pu (Mr (idm n))) (x7 := .un) (x8 := .un) (x9 := .un) (x10 := .un) (x11 := .un)
  have hw : ∀ r ∈ M, r.length = c := fun r hr => by
    obtain ⟨L, hw, _, e⟩ := hg r hr
    rw [e, List.length_map, hw.len]
  have sG : Sch 24 c M := ⟨fun z => by rw [z] at hm; simp at hm, by omega, fun r hr => grow_rok (by omega) (hg r hr), hw⟩
  have pr := p_read h0 h2 h3 hlt hn (show c ≤ 3 by omega) hm hg
  obtain ⟨d0, l3, t2, e1, e2, d3⟩ := take_k d2 (m := (n : Int) + 3) (by omega) (by omega)
  obtain ⟨d, rfl⟩ : ∃ d : Nat, d0 = d := ⟨d0.toNat, by omega⟩
  have h1' : Rt 27 1 := ⟨bt_one.mono (by decide), by decide, by decide⟩
  generalize (u : Rat) / (v : Rat) = p at *
  have i1 := n_ladder hp (by decide) (n := n) (by omega)
  have i2 := n_unladder hp hlt (by omega)
  have k1 : ∀ a b : D, pm_unladder_0_ratio_n [a, b] = [b, a] := fun _ _ => rfl
  have k2 : ∀ a b c : D, pm_wide_0_far_ratio_n [a, b, c] = [c, b, a] := fun _ _ _ => rfl
  have s1 := same_one (pt_mono (mat_pt (inv n p) (a := n + 1) (b := n + 1) (by omega) (by omega)) 7 (by decide))
  rw [← inm_mat] at s1
  have ar := l_are (B := 114) (n := n) (w := n + 1) (M := inm n p) (by rw [inm_mat, mat_len]) (mat_row fun i s _ _ => inv_bt hp hlt i s) (by decide) (by omega)
  have cc : ((n + 1 : Nat) : Int) = (n : Int) + 1 := by omega
  rw [cc] at ar
  have un := fun x0 x2 x3 x4 x5 x6 x7 x8 x9 x10 x12 => units hn (x0 := x0) (x2 := x2) (x3 := x3) (x4 := x4) (x5 := x5) (x6 := x6) (x7 := x7) (x8 := x8) (x9 := x9) (x10 := x10) (x12 := x12)
  have q1 := p_fore hp hlt hn
  have q2 := p_back hp hlt hn
  have pI : Pt 6 (Mr (idm n)) := mat_pt _ (by omega) (by omega)
  have s2 := same_two pI pI
  have rd := n_read_by sP sG (by rw [hm]) (by omega) (by omega) (by decide)
  have s3 := same_one (pt_mono (pt_mr (M := M) (by omega) fun r hr => by rw [hw r hr]; omega) 7 (by decide))
  have w1 := l_wide hp (d := d) hn
  have w2 := l_wide hp (d := d + 1) hn
  have cd : ((d + 1 : Nat) : Int) = (d : Int) + 1 := by omega
  rw [cd] at w2
  have w3 := n_wide hp (d := d) hn
  have pN : ∀ a : Rat, Pt 6 (Nr a) := fun a => pt_mono (pt_nr a) 6 (by decide)
  have s4 := same_two (pN (wd n p d)) (pN (wd n p d))
  have ls := l_less (wd_bt hp hn d) (wd_bt hp hn (d + 1)) (by decide)
  rw [wd_mono hp n d] at ls
  have i3 := n_ladder h1' (by decide) (n := n) (by omega)
  have w4 := l_wide h1' (d := d) hn
  have w5 := n_wide h1' (d := d) hn
  have s5 := same_two (pN (wd n 1 d)) (pN (wd n 1 d))
  have w6 := n_wide hp (d := 0) hn
  rw [wd_zero hp] at w6
  have z0 : ((0 : Nat) : Int) = 0 := rfl
  rw [z0] at w6
  have w7 := n_wide hp (d := n + 1) hn
  rw [wd_end hp, cc] at w7
  have s6 := same_two (pN 1) (pN 0)
  have m1 : D.tup [.int 1, .int 1] = Nr 1 := rfl
  have m0 : D.tup [.int 0, .int 1] = Nr 0 := rfl
  unfold gdE at g1
  refine ⟨l3, [.pu (.int (n : Int)), .pu (Nr p), .pu (Mr (lad n p)), .pu (Mr (inm n p)), .pu (Mr (idm n)), .pu (.int (c : Int)), .pu (Mr M), .pu (.int (d : Int)), .pu (Nr (wd n 1 d)), .pu (Nr (wd n p (d + 1))), .un, .un], ?_⟩
  clear hl h0 h2 h3 h1 hn hp hlt c1 c2 d1 sP d2 hm hg hw sG e1 e2 d3 h1' cc pI cd pN z0
  unfold rrTail
  walk_at "rsh"
theorem right_is : r__law_right = sSeq (sUnp [0] [1, 2] (eTup (aCons (eCallA (.io 0 :: .v (eC (.int 10)) :: []) f__law_take) (aCons (eCallA (.io 0 :: []) f__law_ratio) (aNil))))) (sSeq (sIf (tAnd' (tOf (eBinV (fEq true) 1 (eC (.int 0)))) (tOf (eBin (fEq true) (eCallA (.io 0 :: .v (eC (.int 2)) :: []) f__law_take) (eC (.int 0))))) (sSet [0] 2 (eTup (aCons (eC (.int 1)) (aCons (eC (.int 1)) (aNil))))) (sSkip)) rrTail) := rfl
theorem run_right {l : List D} (hl : Dk l) : ∃ l', f__law_right [.ow l] = .ok (.bl true, false) [.ow l'] := by
  obtain ⟨r0, l1, h1, a0, a1, d1⟩ := take_k hl (m := 10) (by decide) (by decide)
  obtain ⟨n, rfl⟩ : ∃ n : Nat, r0 = n := ⟨r0.toNat, by omega⟩
  have hn : n ≤ 9 := by omega
  obtain ⟨u, v, l2, h2, ⟨u1, u2, u3⟩, d2⟩ := l_ratio d1
  by_cases h0 : n = 0
  · obtain ⟨t, l3, h3, t0, t1, d3⟩ := take_k d2 (m := 2) (by decide) (by decide)
    have z : decide ((n : Int) = 0) = true := decide_eq_true (by omega)
    by_cases ht : t = 0
    · have z2 : decide (t = 0) = true := decide_eq_true ht
      obtain ⟨l', s', tl⟩ := run_tail d3 (u := 1) (v := 1) (by decide) (by decide) (by decide) (n := n) (.inl h0) hn
      have e : (((1 : Int) : Rat) / ((1 : Int) : Rat)) = 1 := by decide +kernel
      rw [e] at tl
      have m1 : D.tup [.int 1, .int 1] = Nr 1 := rfl
      refine ⟨l', ?_⟩
      clear hl a0 a1 d1 hn u1 u2 u3 d2 h0 t0 t1 d3 ht e
      unfold f__law_right
      rw [right_is]
      generalize rrTail = T at *
      walk_at "rsh"
    · have z2 : decide (t = 0) = false := decide_eq_false ht
      obtain ⟨l', s', tl⟩ := run_tail d3 u1 (by omega) u3 (n := n) (.inl h0) hn
      refine ⟨l', ?_⟩
      clear hl a0 a1 d1 hn u1 u2 u3 d2 h0 t0 t1 d3 ht
      unfold f__law_right
      rw [right_is]
      generalize rrTail = T at *
      walk_at "rsh"
  · have z : decide ((n : Int) = 0) = false := decide_eq_false (by omega)
    obtain ⟨l', s', tl⟩ := run_tail d2 u1 (by omega) u3 (n := n) (.inr u2) hn
    refine ⟨l', ?_⟩
    clear hl a0 a1 d1 hn u1 u2 u3 d2 h0
    unfold f__law_right
    rw [right_is]
    generalize rrTail = T at *
    walk_at "rsh"
/-! the law -/
/-- how many turns -/
def turns (j k : Int) (ns : List Int) : Int := if (if k < (ns.length : Int) then k else (ns.length : Int)) > j then (if k < (ns.length : Int) then k else (ns.length : Int)) else j
theorem turns_le {j k : Int} (hj : 0 ≤ j ∧ j ≤ 100) (hk : k ≤ 100) (ns : List Int) : 0 ≤ turns j k ns ∧ turns j k ns ≤ 100 := by
  unfold turns
  constructor <;> (repeat' split) <;> omega
theorem run_law (ns : List Int) (hn : ns.length ≤ 63) : ∃ b st, f_law [.pu (.scr ns)] = .ok (.bl true, b) st := by
  have m1 := turns_le (j := 3) (k := 8) (by decide) (by decide) ns
  obtain ⟨s', h1, x1, rfl⟩ := sFor_gen (put := putN [] 1) (body := sIf (tNot' (tOf (eCallA (.tmp (eCallP (aCons (eVar 0) (aCons (eVar 1) (aNil))) id f__law_deck) :: []) f__law_right))) (sRet (eC (.bl false))) (sSkip)) (fun (k : Nat) => D.int (k : Int)) (fun (_ : Unit) _ => ()) (fun _ st => ∃ x, st = [.pu (.scr ns), x]) (List.range (turns 3 8 ns).toNat) (by
    rintro k hk _ st ⟨x, rfl⟩
    have hk := List.mem_range.mp hk
    obtain ⟨l, e1, d1⟩ := run_deck ns (k : Int) (by omega) (by omega)
    obtain ⟨l', e2⟩ := run_right d1
    refine ⟨[.pu (.scr ns), .pu (.int (k : Int))], [.pu (.scr ns), .pu (.int (k : Int))], rfl, ?_, _, rfl⟩
    clear m1 hk d1
    walk_at "rsh") () [.pu (.scr ns), .un] ⟨_, rfl⟩
  have e1 : rngI (.int (turns 3 8 ns)) [.pu (.scr ns), .un] = .ok ((List.range (turns 3 8 ns).toNat).map fun (k : Nat) => D.int (k : Int)) [.pu (.scr ns), .un] := by rw [rngI_ok (by omega), rng0]
  unfold turns at e1 h1
  refine ⟨false, [.pu (.scr ns)], ?_⟩
  unfold f_law r_law
  clear m1
  walk_at "rsh"
end G
end

end

theorem PySem.Challenge.cw_oneservesall_k09_whole_ladders_undone_an_holds : PySem.Challenge.rw_oneservesall_k09_whole_ladders_undone_an.Holds :=
  G.law_holds fun ns hn => G.run_law ns hn
