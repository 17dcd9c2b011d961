import PyProof.Rows.All
import Wide.All
import OpenK.AllK
import Wide.FinOn
import HandS.ForMost
import HandS.IsInst
import HandS.Wide
import HandS.Lambda
import KE.SortData
import KE.SortKeyHeap
import HandS.ExcCtx
import PyProof.ReprRoads
import PyProof.StrOps2
import HandS.Property
import KE.GoesEnum
import KE.GoesMore
import KE.KLam
import HandS.Style
import HandS.Defaults
import HandS.ClsMeth
import HandS.ForDict
import HandS.EndTab
import KE.KNestM
import KE.KCallOwn
import KE.KFmtOwn
import PyProof.Conv_bool
import HandS.MakeKw
import HandS.FStr
import PyProof.Rows.StrIntSpec
import PyProof.Rows.ReprOcc
import PyProof.ReprText
import HandS.Star
import HandS.TupAny
import HandS.GenList
import KE.DatumOrd
import HandS.SortKw
import HandS.More
import HandS.TryOnly
import OpenK.KMore
import HandS.Set
import HandS.Zip
import HandS.Rev
import HandS.Strs
import PyProof.ListRange
import PyProof.LongRange
import OpenK.KLaw
import PySem.Challenge.RW_seatchains_k70_whole_added_and_taken_out
set_option Elab.async false
set_option linter.all false
set_option maxRecDepth 100000
/-! a layer of plain values over the hand layer -/
namespace Z
open PySem PySem.Spec L2
open PyProof.Rows hiding St
/-- a plain value -/
inductive PV where
  | non | bl (b : Bool) | int (i : Int) | str (x : Str)
  | tup (xs : List PV) | lst (xs : List PV) | scr (ns : List Int)
  | ins (C : Addr) (fs : List (Str × PV)) | dic0 | raw (v : V)
section
variable (K : PySem.W.Frag)
def TupAt (O : Addr → Prop) (H : Hp) (a : Addr) (vs : List V) : Prop :=
  (¬ O a ∧ Rd H a (.tup vs)) ∨
    ∃ (o : Obj) (its : Array Value) (n : Nat), K.lookup a = some o ∧ o.cls = .type "tuple" ∧ o.data = .seq its n ∧ its.size ≤ sizeLine ∧ Vals vs its.toList
theorem TupAt.sq {K : PySem.W.Frag} {O H a vs} (h : TupAt K O H a vs) : SqT K H a vs := by
  rcases h with ⟨_, h⟩ | h
  · exact .inl h
  · exact .inr h
mutual
def Rep (O : Addr → Prop) (H : Hp) : PV → V → Prop
  | .non, v => v = .non
  | .bl b, v => v = .bl b
  | .int i, v => v = .int i
  | .str x, v => v = .str x
  | .raw u, v => v = u
  | .scr ns, v => ∃ a o, v = .ref a ∧ ¬ O a ∧ H a = some (.frz o (.lst (ns.map V.int)))
  | .dic0, v => ∃ a, v = .ref a ∧ ¬ O a ∧ H a = some (.dK [])
  | .tup xs, v => ∃ a vs, v = .ref a ∧ TupAt K O H a vs ∧ Reps O H xs vs
  | .lst xs, v => ∃ a vs, v = .ref a ∧ ¬ O a ∧ H a = some (.lst vs) ∧ Reps O H xs vs
  | .ins C fs, v => ∃ a dx ws, v = .ref a ∧ ¬ O a ∧ H a = some (.ins C dx ws) ∧ RepF O H fs ws
def Reps (O : Addr → Prop) (H : Hp) : List PV → List V → Prop
  | [], vs => vs = []
  | x :: xs, vs => ∃ v us, vs = v :: us ∧ Rep O H x v ∧ Reps O H xs us
def RepF (O : Addr → Prop) (H : Hp) : List (Str × PV) → List (Str × V) → Prop
  | [], vs => vs = []
  | (n, x) :: xs, vs => ∃ v us, vs = (n, v) :: us ∧ Rep O H x v ∧ RepF O H xs us
end
end
/-- what stood outside of O stands, outside of O' -/
def Car (O O' : Addr → Prop) (H H' : Hp) : Prop := ∀ a o, ¬ O a → H a = some o → (∀ ps, o ≠ .tbl ps) → H' a = some o ∧ ¬ O' a
section
variable {K : PySem.W.Frag} {O O' : Addr → Prop} {H H' : Hp}
theorem TupAt.car {a : Addr} {vs : List V} (c : Car O O' H H') (h : TupAt K O H a vs) : TupAt K O' H' a vs := by
  rcases h with ⟨n, h | ⟨o, h⟩⟩ | h
  · exact .inl ⟨(c _ _ n h nofun).2, .inl (c _ _ n h nofun).1⟩
  · exact .inl ⟨(c _ _ n h nofun).2, .inr ⟨o, (c _ _ n h nofun).1⟩⟩
  · exact .inr h
mutual
theorem Rep.car (c : Car O O' H H') : ∀ (x : PV) (v : V), Rep K O H x v → Rep K O' H' x v
  | .non, _, h => by unfold Rep at h ⊢; exact h
  | .bl _, _, h => by unfold Rep at h ⊢; exact h
  | .int _, _, h => by unfold Rep at h ⊢; exact h
  | .str _, _, h => by unfold Rep at h ⊢; exact h
  | .raw _, _, h => by unfold Rep at h ⊢; exact h
  | .scr _, _, h => by
    unfold Rep at h ⊢
    obtain ⟨a, o, e, n, h⟩ := h
    exact ⟨a, o, e, (c _ _ n h nofun).2, (c _ _ n h nofun).1⟩
  | .dic0, _, h => by
    unfold Rep at h ⊢
    obtain ⟨a, e, n, h⟩ := h
    exact ⟨a, e, (c _ _ n h nofun).2, (c _ _ n h nofun).1⟩
  | .tup xs, _, h => by
    unfold Rep at h ⊢
    obtain ⟨a, vs, e, t, r⟩ := h
    exact ⟨a, vs, e, t.car c, Reps.car c xs vs r⟩
  | .lst xs, _, h => by
    unfold Rep at h ⊢
    obtain ⟨a, vs, e, n, t, r⟩ := h
    exact ⟨a, vs, e, (c _ _ n t nofun).2, (c _ _ n t nofun).1, Reps.car c xs vs r⟩
  | .ins C fs, _, h => by
    unfold Rep at h ⊢
    obtain ⟨a, dx, ws, e, n, t, r⟩ := h
    exact ⟨a, dx, ws, e, (c _ _ n t nofun).2, (c _ _ n t nofun).1, RepF.car c fs ws r⟩
theorem Reps.car (c : Car O O' H H') : ∀ (xs : List PV) (vs : List V), Reps K O H xs vs → Reps K O' H' xs vs
  | [], _, h => by unfold Reps at h ⊢; exact h
  | x :: xs, _, h => by
    unfold Reps at h ⊢
    obtain ⟨v, us, e, r, t⟩ := h
    exact ⟨v, us, e, Rep.car c x v r, Reps.car c xs us t⟩
theorem RepF.car (c : Car O O' H H') : ∀ (xs : List (Str × PV)) (vs : List (Str × V)), RepF K O H xs vs → RepF K O' H' xs vs
  | [], _, h => by unfold RepF at h ⊢; exact h
  | (n, x) :: xs, _, h => by
    unfold RepF at h ⊢
    obtain ⟨v, us, e, r, t⟩ := h
    exact ⟨v, us, e, Rep.car c x v r, RepF.car c xs us t⟩
end
theorem Car.mono {O O' : Addr → Prop} {H : Hp} (h : ∀ a, O' a → O a) : Car O O' H H := fun a o n e _ => ⟨e, fun z => n (h a z)⟩
theorem Rep.mono {x v} (h : ∀ a, O' a → O a) (r : Rep K O H x v) : Rep K O' H x v := r.car (Car.mono h)
theorem Reps.mono {x v} (h : ∀ a, O' a → O a) (r : Reps K O H x v) : Reps K O' H x v := r.car (Car.mono h)
theorem RepF.mono {x v} (h : ∀ a, O' a → O a) (r : RepF K O H x v) : RepF K O' H x v := r.car (Car.mono h)
/-- nothing, or a table, stands at b -/
def Nw (H : Hp) (b : Addr) : Prop := ∀ o, H b = some o → ∃ ps, o = .tbl ps
theorem Nw.of {b : Addr} (h : H b = none) : Nw H b := fun o e => by rw [h] at e; cases e
theorem Nw.no {b : Addr} {o : HO} (n : Nw H b) (h : H b = some o) (t : ∀ ps, o ≠ .tbl ps) : False := by
  obtain ⟨ps, e⟩ := n o h
  exact t ps e
theorem nw_ne {a b : Addr} {u : HO} (z : b ≠ a) (n : Nw (upd H a u) b) : Nw H b := fun o h => n o (by rw [upd_ne z]; exact h)
theorem nw_same {a : Addr} {u : HO} (t : ∀ ps, u ≠ .tbl ps) : ¬ Nw (upd H a u) a := fun n => n.no upd_same t
theorem live_upd {a b : Addr} {u : HO} (t : ∀ ps, u ≠ .tbl ps) (n : ¬ Nw H b) : ¬ Nw (upd H a u) b := by
  by_cases z : b = a
  · rw [z]; exact nw_same t
  · exact fun q => n (nw_ne z q)
/-- the tracked ones of O -/
def Trk (O : Addr → Prop) (H : Hp) : Prop := ∀ a, O a → ¬ Nw H a
theorem Trk.same (t : Trk O H) (s : Same H H') : Trk O H' := fun a h e => t a h fun o q => e o (s a o q)
theorem Car.same (s : Same H H') : Car O O H H' := fun a o n e _ => ⟨s a o e, n⟩
theorem Same.new {p : Addr} {o : HO} (hp : H p = none) : Same H (upd H p o) := fun b u e => by rw [upd_ne (ne_of_none e hp)]; exact e
theorem Trk.fresh {p : Addr} (t : Trk O H) (hp : H p = none) : ¬ O p := fun h => t p h (Nw.of hp)
-- lists
theorem Reps.nil : Reps K O H [] [] := by unfold Reps; rfl
theorem Reps.cons {x xs v vs} (h : Rep K O H x v) (t : Reps K O H xs vs) : Reps K O H (x :: xs) (v :: vs) := by unfold Reps; exact ⟨v, vs, rfl, h, t⟩
theorem Reps.inv {x : PV} {xs : List PV} {vs : List V} (h : Reps K O H (x :: xs) vs) : ∃ v us, vs = v :: us ∧ Rep K O H x v ∧ Reps K O H xs us := by unfold Reps at h; exact h
theorem Reps.inv0 {vs : List V} (h : Reps K O H [] vs) : vs = [] := by unfold Reps at h; exact h
theorem Reps.len : ∀ {xs : List PV} {vs : List V}, Reps K O H xs vs → vs.length = xs.length
  | [], _, h => by rw [h.inv0]; rfl
  | x :: xs, _, h => by
    obtain ⟨v, us, rfl, _, t⟩ := h.inv
    rw [List.length_cons, List.length_cons, t.len]
theorem Reps.get : ∀ {xs : List PV} {vs : List V} {i : Nat} {x : PV}, Reps K O H xs vs → xs[i]? = some x → ∃ v, vs[i]? = some v ∧ Rep K O H x v
  | [], _, _, _, _, e => by simp at e
  | x :: xs, _, 0, _, h, e => by
    obtain ⟨v, us, rfl, r, t⟩ := h.inv
    simp at e; subst e; exact ⟨v, rfl, r⟩
  | x :: xs, _, i + 1, _, h, e => by
    obtain ⟨v, us, rfl, r, t⟩ := h.inv
    obtain ⟨u, h1, h2⟩ := t.get (i := i) (by simpa using e)
    exact ⟨u, by simpa using h1, h2⟩
theorem Reps.get' : ∀ {xs : List PV} {vs : List V} {i : Nat} {v : V}, Reps K O H xs vs → vs[i]? = some v → ∃ x, xs[i]? = some x ∧ Rep K O H x v := fun {xs vs i v} h e => by
  have hl : i < xs.length := by rw [← h.len]; exact (List.getElem?_eq_some_iff.mp e).1
  obtain ⟨u, h1, h2⟩ := h.get (i := i) (x := xs[i]) (by simp [hl])
  rw [e] at h1; cases h1
  exact ⟨_, by simp [hl], h2⟩
theorem Reps.app : ∀ {xs ys : List PV} {vs us : List V}, Reps K O H xs vs → Reps K O H ys us → Reps K O H (xs ++ ys) (vs ++ us)
  | [], _, _, _, h, t => by rw [h.inv0]; exact t
  | x :: xs, _, _, _, h, t => by
    obtain ⟨v, us, rfl, r, q⟩ := h.inv
    exact .cons r (q.app t)
theorem Reps.take : ∀ {xs : List PV} {vs : List V} (n : Nat), Reps K O H xs vs → Reps K O H (xs.take n) (vs.take n)
  | [], _, n, h => by rw [h.inv0]; simp; exact .nil
  | x :: xs, _, 0, h => by simp; exact .nil
  | x :: xs, _, n + 1, h => by
    obtain ⟨v, us, rfl, r, q⟩ := h.inv
    exact .cons r (q.take n)
theorem Reps.drop : ∀ {xs : List PV} {vs : List V} (n : Nat), Reps K O H xs vs → Reps K O H (xs.drop n) (vs.drop n)
  | [], _, n, h => by rw [h.inv0]; simp; exact .nil
  | x :: xs, _, 0, h => by simpa using h
  | x :: xs, _, n + 1, h => by
    obtain ⟨v, us, rfl, r, q⟩ := h.inv
    exact q.drop n
theorem Reps.set : ∀ {xs : List PV} {vs : List V} {x v} (i : Nat), Reps K O H xs vs → Rep K O H x v → Reps K O H (xs.set i x) (vs.set i v)
  | [], _, _, _, n, h, _ => by rw [h.inv0]; exact .nil
  | y :: xs, _, _, _, 0, h, r => by
    obtain ⟨v, us, rfl, _, q⟩ := h.inv
    exact .cons r q
  | y :: xs, _, _, _, n + 1, h, r => by
    obtain ⟨v, us, rfl, r0, q⟩ := h.inv
    exact .cons r0 (q.set n r)
theorem RepF.look : ∀ {fs : List (Str × PV)} {ws : List (Str × V)}, RepF K O H fs ws → ∀ f : Str, (∀ x, fs.lookup f = some x → ∃ v, ws.lookup f = some v ∧ Rep K O H x v) ∧ (fs.lookup f = none → ws.lookup f = none)
  | [], _, h, f => by
    unfold RepF at h; subst h
    refine ⟨fun x e => ?_, fun _ => rfl⟩
    simp at e
  | (n, x) :: fs, _, h, f => by
    unfold RepF at h
    obtain ⟨v, us, rfl, r, t⟩ := h
    obtain ⟨h1, h2⟩ := t.look f
    by_cases e : f = n
    · subst e
      simp only [List.lookup_cons_self]
      exact ⟨fun y q => by cases q; exact ⟨v, rfl, r⟩, fun q => nomatch q⟩
    · have e' : (f == n) = false := by simpa using e
      simp only [List.lookup_cons, e']
      exact ⟨h1, h2⟩
theorem RepF.len : ∀ {fs : List (Str × PV)} {ws : List (Str × V)}, RepF K O H fs ws → ws.length = fs.length
  | [], _, h => by unfold RepF at h; rw [h]; rfl
  | (n, x) :: fs, _, h => by
    unfold RepF at h
    obtain ⟨v, us, rfl, r, t⟩ := h
    rw [List.length_cons, List.length_cons, t.len]
end
/-! ### the frame -/
inductive Ow where
  | l (xs : List PV) | o (C : Addr) (fs : List (Str × PV))
inductive Sl where
  | no | va (x : PV) | ow (o : Ow)
abbrev EP' := List Sl
def OwAt (K : PySem.W.Frag) (O : Addr → Prop) (H : Hp) (a : Addr) : Ow → Prop
  | .l xs => ∃ vs, H a = some (.lst vs) ∧ Reps K O H xs vs
  | .o C fs => ∃ dx ws, H a = some (.ins C dx ws) ∧ RepF K O H fs ws
def IsOwn (σ : St) (η : EP') (a : Addr) : Prop := ∃ (i : Nat) (o : Ow), σ[i]? = some (some (V.ref a)) ∧ η[i]? = some (Sl.ow o)
def Oof (F : Addr → Prop) (σ : St) (η : EP') : Addr → Prop := fun a => F a ∨ IsOwn σ η a
structure Rs (K : PySem.W.Frag) (T : List (Addr × Str)) (F : Addr → Prop) (σ : St) (η : EP') (H : Hp) : Prop where
  len : σ.length = η.length
  va : ∀ (i : Nat) (x : PV), η[i]? = some (Sl.va x) → ∃ v, σ[i]? = some (some v) ∧ Rep K (Oof F σ η) H x v
  ow : ∀ (i : Nat) (o : Ow), η[i]? = some (Sl.ow o) → ∃ a, σ[i]? = some (some (V.ref a)) ∧ OwAt K (Oof F σ η) H a o ∧ ¬ F a
  nd : ∀ (i j : Nat) (o o' : Ow) (a : Addr), η[i]? = some (Sl.ow o) → η[j]? = some (Sl.ow o') → σ[i]? = some (some (V.ref a)) → σ[j]? = some (some (V.ref a)) → i = j
  tr : Trk F H
  tb : LamX.Tabs T H
structure Ext (σ : St) (η : EP') (σ' : St) (η' : EP') (H H' : Hp) : Prop where
  keep : ∀ b o, H b = some o → ¬ IsOwn σ η b → (∀ ps, o ≠ .tbl ps) → H' b = some o
  live : ∀ b, ¬ Nw H b → ¬ Nw H' b
  new : ∀ b, IsOwn σ' η' b → IsOwn σ η b ∨ Nw H b
  fst : ∀ o' : Ow, η'[0]? = some (Sl.ow o') → ∃ o : Ow, η[0]? = some (Sl.ow o) ∧ σ'[0]? = σ[0]?
section
variable {K : PySem.W.Frag} {T : List (Addr × Str)} {F : Addr → Prop} {σ σ1 σ2 : St} {η η1 η2 : EP'} {H H1 H2 : Hp}
theorem Ext.refl : Ext σ η σ η H H := ⟨fun _ _ e _ _ => e, fun _ e => e, fun _ e => .inl e, fun o e => ⟨o, e, rfl⟩⟩
theorem Ext.trans (a : Ext σ η σ1 η1 H H1) (b : Ext σ1 η1 σ2 η2 H1 H2) : Ext σ η σ2 η2 H H2 := by
  refine ⟨fun c o e n t => b.keep c o (a.keep c o e n t) ?_ t, fun c e => b.live c (a.live c e), fun c z => ?_, fun o e => ?_⟩
  · intro z
    rcases a.new c z with q | q
    · exact n q
    · exact q.no e t
  · rcases b.new c z with q | q
    · exact a.new c q
    · by_cases e : Nw H c
      · exact .inr e
      · exact absurd q (a.live c e)
  · obtain ⟨o1, e1, s1⟩ := b.fst o e
    obtain ⟨o2, e2, s2⟩ := a.fst o1 e1
    exact ⟨o2, e2, s1.trans s2⟩
theorem Ext.same (s : Same H H1) : Ext σ η σ η H H1 := by
  refine ⟨fun b o e _ _ => s b o e, fun b e q => e fun o r => q o (s b o r), fun _ z => .inl z, fun o e => ⟨o, e, rfl⟩⟩
theorem Ext.nw {b : Addr} (e : Ext σ η σ1 η1 H H1) (n : Nw H1 b) : Nw H b := Classical.byContradiction fun z => e.live b z n
theorem Rs.trO (R : Rs K T F σ η H) : Trk (Oof F σ η) H := by
  rintro a (h | ⟨i, o, h1, h2⟩) e
  · exact R.tr a h e
  · obtain ⟨b, q1, q2, _⟩ := R.ow i o h2
    rw [h1] at q1; cases q1
    cases o with
    | l xs => obtain ⟨vs, q, _⟩ := q2; exact e.no q nofun
    | o C fs => obtain ⟨dx, ws, q, _⟩ := q2; exact e.no q nofun
theorem Ext.car (e : Ext σ η σ1 η1 H H1) : Car (Oof F σ η) (Oof F σ1 η1) H H1 := fun a o n h t =>
  ⟨e.keep a o h (fun z => n (.inr z)) t, fun z => z.elim (fun z => n (.inl z)) fun z => (e.new a z).elim (fun z => n (.inr z)) fun q => q.no h t⟩
theorem OwAt.car {O O' : Addr → Prop} {a : Addr} {o : Ow} (c : Car O O' H H1) (h : OwAt K O H a o) (e : H1 a = H a) : OwAt K O' H1 a o := by
  cases o with
  | l xs =>
    obtain ⟨vs, q, r⟩ := h
    exact ⟨vs, e.trans q, r.car c⟩
  | o C fs =>
    obtain ⟨dx, ws, q, r⟩ := h
    exact ⟨dx, ws, e.trans q, r.car c⟩
theorem Rs.same (R : Rs K T F σ η H) (s : Same H H1) : Rs K T F σ η H1 := by
  have c : Car (Oof F σ η) (Oof F σ η) H H1 := Car.same s
  refine ⟨R.len, fun i x e => ?_, fun i o e => ?_, R.nd, R.tr.same s, R.tb.ext s⟩
  · obtain ⟨v, h1, h2⟩ := R.va i x e
    exact ⟨v, h1, h2.car c⟩
  · obtain ⟨a, h1, h2, h3⟩ := R.ow i o e
    refine ⟨a, h1, h2.car c ?_, h3⟩
    cases q : H a with
    | none => exact absurd (Nw.of q) (R.trO a (.inr ⟨i, o, h1, e⟩))
    | some u => exact s a u q
end
/-! ### readings of plain values -/
abbrev TEp := EP' → (PV → EP' → Prop) → Prop
abbrev TTp := EP' → (Bool → EP' → Prop) → Prop
abbrev TAp := EP' → (List PV → EP' → Prop) → Prop
structure EndsP where
  nx : EP' → Prop
  rt : PV → EP' → Prop
  bk : EP' → Prop := fun _ => False
  ct : EP' → Prop := fun _ => False
abbrev TSp := EndsP → EP' → Prop
def up (K : PySem.W.Frag) (T : List (Addr × Str)) (tp : TEp) : TE := fun σ H Q => ∃ F η P, Rs K T F σ η H ∧ tp η P ∧ ∀ x η' v H', P x η' → Ext σ η σ η' H H' → Rs K T F σ η' H' → Rep K (Oof F σ η') H' x v → Q v H'
def upB (K : PySem.W.Frag) (T : List (Addr × Str)) (tp : TTp) : TT := fun σ H Q => ∃ F η P, Rs K T F σ η H ∧ tp η P ∧ ∀ x η' H', P x η' → Ext σ η σ η' H H' → Rs K T F σ η' H' → Q x H'
def upA (K : PySem.W.Frag) (T : List (Addr × Str)) (tp : TAp) : TA := fun σ H Q => ∃ F η P, Rs K T F σ η H ∧ tp η P ∧ ∀ xs η' vs H', P xs η' → Ext σ η σ η' H H' → Rs K T F σ η' H' → Reps K (Oof F σ η') H' xs vs → Q vs H'
def upS (K : PySem.W.Frag) (T : List (Addr × Str)) (ts : TSp) : TS := fun D σ H => ∃ F η D', Rs K T F σ η H ∧ ts D' η ∧
  (∀ η' σ' H', D'.nx η' → Ext σ η σ' η' H H' → Rs K T F σ' η' H' → D.nx σ' H') ∧
  (∀ η' σ' H', D'.bk η' → Ext σ η σ' η' H H' → Rs K T F σ' η' H' → D.bk σ' H') ∧
  (∀ η' σ' H', D'.ct η' → Ext σ η σ' η' H H' → Rs K T F σ' η' H' → D.ct σ' H') ∧
  (∀ x η' σ' v H', D'.rt x η' → Ext σ η σ' η' H H' → Rs K T F σ' η' H' → Rep K (Oof F σ' η') H' x v → D.rt v H')
section
variable {X : Cx}
theorem PE.weak {e : Expr} {t t' : TE} (h : PE X e t) (w : ∀ σ H Q, t' σ H Q → t σ H Q) : PE X e t' := ⟨fun pins s σ H Q I q => h.run pins s σ H Q I (w _ _ _ q)⟩
theorem PT.weak {e : Expr} {t t' : TT} (h : PT X e t) (w : ∀ σ H Q, t' σ H Q → t σ H Q) : PT X e t' := ⟨fun pins s σ H Q I q => h.run pins s σ H Q I (w _ _ _ q)⟩
theorem PW.weak {e : Expr} {t t' : TT} (h : PW X e t) (w : ∀ σ H Q, t' σ H Q → t σ H Q) : PW X e t' := ⟨fun wh pins s σ H Q I q => h.run wh pins s σ H Q I (w _ _ _ q)⟩
theorem PA.weak {e : List Expr} {t t' : TA} (h : PA X e t) (w : ∀ σ H Q, t' σ H Q → t σ H Q) : PA X e t' := ⟨fun pos pins s σ H Q I q => h.run pos pins s σ H Q I (w _ _ _ q)⟩
theorem PS.weak {e : Stmt} {t t' : TS} (h : PS X e t) (w : ∀ D σ H, t' D σ H → t D σ H) : PS X e t' := ⟨fun pins s σ H D I q => h.run pins s σ H D I (w _ _ _ q)⟩
theorem PSs.weak {e : List Stmt} {t t' : TS} (h : PSs X e t) (w : ∀ D σ H, t' D σ H → t D σ H) : PSs X e t' := ⟨fun pins s σ H D I q => h.run pins s σ H D I (w _ _ _ q)⟩
end
end Z
set_option Elab.async false
set_option linter.all false
set_option maxRecDepth 100000
namespace Z
open PySem PySem.Spec L2
open PyProof.Rows hiding St
section
variable {K : PySem.W.Frag} {T : List (Addr × Str)} {F : Addr → Prop} {σ : St} {η : EP'} {H H' : Hp} {i : Nat} {x : PV} {v : V} {a : Addr} {o : Ow}
theorem ne_set {α : Type} {l : List α} {i j : Nat} {x : α} (h : j ≠ i) : (l.set i x)[j]? = l[j]? := List.getElem?_set_ne (Ne.symm h)
theorem at_set {α : Type} {l : List α} {i : Nat} {x y : α} (h : (l.set i x)[i]? = some y) : y = x := by
  by_cases hi : i < l.length
  · rw [List.getElem?_set_self hi] at h; exact (Option.some.inj h).symm
  · rw [List.getElem?_eq_none (by simpa using hi)] at h; cases h
theorem own_set {b : Addr} {w : V} (h : IsOwn (σ.set i (some w)) (η.set i (.va x)) b) : IsOwn σ η b := by
  obtain ⟨j, o, h1, h2⟩ := h
  by_cases e : j = i
  · subst e; cases at_set h2
  · rw [ne_set e] at h1 h2; exact ⟨j, o, h1, h2⟩
theorem own_set1 {b : Addr} (h : IsOwn σ (η.set i (.va x)) b) : IsOwn σ η b := by
  obtain ⟨j, o, h1, h2⟩ := h
  by_cases e : j = i
  · subst e; cases at_set h2
  · rw [ne_set e] at h2; exact ⟨j, o, h1, h2⟩
theorem Oof_mono {σ' : St} {η' : EP'} (h : ∀ b, IsOwn σ' η' b → IsOwn σ η b) : ∀ b, Oof F σ' η' b → Oof F σ η b := fun b z => z.elim .inl fun z => .inr (h b z)
theorem OwAt.mono {O O' : Addr → Prop} (h : ∀ b, O' b → O b) (r : OwAt K O H a o) : OwAt K O' H a o := r.car (Car.mono h) rfl
theorem Rs.setv (R : Rs K T F σ η H) (r : Rep K (Oof F σ η) H x v) : Rs K T F (σ.set i (some v)) (η.set i (.va x)) H := by
  have m : ∀ b, Oof F (σ.set i (some v)) (η.set i (.va x)) b → Oof F σ η b := Oof_mono fun b z => own_set z
  refine ⟨by simpa using R.len, fun j y e => ?_, fun j o e => ?_, fun j k o o' a e1 e2 e3 e4 => ?_, R.tr, R.tb⟩
  · by_cases h : j = i
    · subst h
      have := at_set e; cases this
      have hj : j < η.length := by
        have := (List.getElem?_eq_some_iff.mp e).1; simpa using this
      exact ⟨v, by rw [List.getElem?_set_self (by rw [R.len]; exact hj)], r.mono m⟩
    · rw [ne_set h] at e ⊢
      obtain ⟨w, h1, h2⟩ := R.va j y e
      exact ⟨w, h1, h2.mono m⟩
  · by_cases h : j = i
    · subst h; cases at_set e
    · rw [ne_set h] at e ⊢
      obtain ⟨a, h1, h2, h3⟩ := R.ow j o e
      exact ⟨a, h1, h2.mono m, h3⟩
  · have hj : j ≠ i := fun h => by subst h; cases at_set e1
    have hk : k ≠ i := fun h => by subst h; cases at_set e2
    rw [ne_set hj] at e1 e3
    rw [ne_set hk] at e2 e4
    exact R.nd j k o o' a e1 e2 e3 e4
theorem Ext.setv {w : V} : Ext σ η (σ.set i (some w)) (η.set i (.va x)) H H := ⟨fun _ _ e _ _ => e, fun _ e => e, fun _ z => .inl (own_set z), fun o e => by
  by_cases h : (0 : Nat) = i
  · subst h; cases at_set e
  · rw [ne_set h] at e ⊢
    exact ⟨o, e, rfl⟩⟩
def frz : Ow → PV
  | .l xs => .lst xs
  | .o C fs => .ins C fs
theorem OwAt.frz {O : Addr → Prop} (h : OwAt K O H a o) (n : ¬ O a) : Rep K O H (frz o) (.ref a) := by
  cases o with
  | l xs =>
    obtain ⟨vs, h1, h2⟩ := h
    unfold Z.frz Rep
    exact ⟨a, vs, rfl, n, h1, h2⟩
  | o C fs =>
    obtain ⟨dx, ws, h1, h2⟩ := h
    unfold Z.frz Rep
    exact ⟨a, dx, ws, rfl, n, h1, h2⟩
theorem Rs.freeze (R : Rs K T F σ η H) (e : η[i]? = some (.ow o)) : ∃ a, σ[i]? = some (some (V.ref a)) ∧ Rs K T F σ (η.set i (.va (frz o))) H ∧ Rep K (Oof F σ (η.set i (.va (frz o)))) H (frz o) (.ref a) := by
  obtain ⟨a, s, r, nf⟩ := R.ow i o e
  have m : ∀ b, Oof F σ (η.set i (.va (frz o))) b → Oof F σ η b := Oof_mono fun b z => own_set1 z
  have na : ¬ Oof F σ (η.set i (.va (frz o))) a := by
    rintro (z | ⟨j, o', h1, h2⟩)
    · exact nf z
    · have hj : j ≠ i := fun h => by subst h; cases at_set h2
      rw [ne_set hj] at h2
      exact hj (R.nd j i o' o a h2 e h1 s)
  have rep := (r.mono m).frz na
  refine ⟨a, s, ⟨by simpa using R.len, fun j y q => ?_, fun j o' q => ?_, fun j k p p' b e1 e2 e3 e4 => ?_, R.tr, R.tb⟩, rep⟩
  · by_cases h : j = i
    · subst h
      cases at_set q
      exact ⟨_, s, rep⟩
    · rw [ne_set h] at q
      obtain ⟨w, h1, h2⟩ := R.va j y q
      exact ⟨w, h1, h2.mono m⟩
  · by_cases h : j = i
    · subst h; cases at_set q
    · rw [ne_set h] at q
      obtain ⟨b, h1, h2, h3⟩ := R.ow j o' q
      exact ⟨b, h1, h2.mono m, h3⟩
  · have hj : j ≠ i := fun h => by subst h; cases at_set e1
    have hk : k ≠ i := fun h => by subst h; cases at_set e2
    rw [ne_set hj] at e1
    rw [ne_set hk] at e2
    exact R.nd j k p p' b e1 e2 e3 e4
theorem Ext.freeze : Ext σ η σ (η.set i (.va x)) H H := ⟨fun _ _ e _ _ => e, fun _ e => e, fun _ z => .inl (own_set1 z), fun o e => by
  by_cases h : (0 : Nat) = i
  · subst h; cases at_set e
  · rw [ne_set h] at e
    exact ⟨o, e, rfl⟩⟩
end
section
variable {X : Cx} {T : List (Addr × Str)}
/-! ### values in, values out -/
/-- what a rule over plain values hands on -/
def Out (K : PySem.W.Frag) (O : Addr → Prop) (H : Hp) (P : PV → Prop) (Q : VK) : Prop := ∀ z v H', P z → Same H H' → Rep K O H' z v → Q v H'
abbrev R2p := PV → PV → (PV → Prop) → Prop
def r2 (K : PySem.W.Frag) (r : R2p) : R2 := fun x y H Q => ∃ O px py P, Trk O H ∧ Rep K O H px x ∧ Rep K O H py y ∧ r px py P ∧ Out K O H P Q
abbrev R1p := List PV → (PV → Prop) → Prop
def r1 (K : PySem.W.Frag) (r : R1p) : List V → Hp → VK → Prop := fun vs H Q => ∃ O ps P, Trk O H ∧ Reps K O H ps vs ∧ r ps P ∧ Out K O H P Q
def tOpP (r : R2p) (ta tb : TEp) : TEp := fun η P => ta η fun x η1 => tb η1 fun y η2 => r x y fun z => P z η2
def tCBP (r : R1p) (t : TAp) : TEp := fun η P => t η fun xs η1 => r xs fun z => P z η1
def tConP (x : PV) : TEp := fun η P => P x η
def tVarP (i : Nat) : TEp := fun η P => match η[i]? with
  | some (.va x) => P x η
  | some (.ow o) => P (frz o) (η.set i (.va (frz o)))
  | _ => False
def tNilP : TAp := fun η P => P [] η
def tConsP (ta : TEp) (t : TAp) : TAp := fun η P => ta η fun x η1 => t η1 fun xs η2 => P (x :: xs) η2
variable {e a b c : Expr} {es : List Expr} {ta tb tc : TEp} {t : TAp} {pos : Pos}
theorem z_var {i : Nat} {x : Str} (h : PE X (.Name x pos) (tVar i)) : PE X (.Name x pos) (up X.K T (tVarP i)) := by
  refine PE.weak h fun σ H Q q => ?_
  obtain ⟨F, η, P, R, h, k⟩ := q
  unfold tVarP at h
  split at h
  · rename_i y e
    obtain ⟨v, h1, h2⟩ := R.va i y e
    exact ⟨v, h1, k _ _ _ _ h .refl R h2⟩
  · rename_i o e
    obtain ⟨a, h1, h2, h3⟩ := R.freeze e
    exact ⟨_, h1, k _ _ _ _ h .freeze h2 h3⟩
  · cases h
theorem zv (i : Nat) {x : Str} {pos : Pos} (hN : X.N[i]? = some x := by rfl) (hv : Vis X.env.scope x := by first | exact Or.inl rfl | exact Or.inr (Or.inl rfl) | exact Or.inr (Or.inr rfl)) (hd : (x == ("__debug__" : Str)) = false := by decide)
    (hcd : (x == ("__classdict__" : Str)) = false := by decide) : PE X (.Name x pos) (up X.K T (tVarP i)) := z_var (pe_var hN hv hd hcd)
theorem z_con {v : V} {x : PV} (h : PE X e (tC v)) (r : ∀ O H, Rep X.K O H x v) : PE X e (up X.K T (tConP x)) := by
  refine PE.weak h fun σ H Q q => ?_
  obtain ⟨F, η, P, R, h, k⟩ := q
  exact k _ _ _ _ h .refl R (r _ _)
theorem z_int {i j} : PE X (.Constant (.int i) j pos) (up X.K T (tConP (.int i))) := z_con pe_int fun _ _ => by unfold Rep; rfl
theorem z_bl {i j} : PE X (.Constant (.bool i) j pos) (up X.K T (tConP (.bl i))) := z_con pe_bl fun _ _ => by unfold Rep; rfl
theorem z_non {j} : PE X (.Constant .none j pos) (up X.K T (tConP .non)) := z_con pe_non fun _ _ => by unfold Rep; rfl
theorem z_str {i j} : PE X (.Constant (.str i) j pos) (up X.K T (tConP (.str i))) := z_con pe_str fun _ _ => by unfold Rep; rfl
theorem z_op {op : Operator} {r : R2p} (ho : OpR X (binaryOp op) (r2 X.K r)) (ha : PE X a (up X.K T ta)) (hb : PE X b (up X.K T tb)) : PE X (.BinOp a op b pos) (up X.K T (tOpP r ta tb)) := by
  refine PE.weak (pe_op ho ha hb) fun σ H Q q => ?_
  obtain ⟨F, η, P, R, h, k⟩ := q
  refine ⟨F, η, _, R, h, fun x η1 v H1 h1 e1 R1 r1' => ⟨F, η1, _, R1, h1, fun y η2 w H2 h2 e2 R2' rw' => ?_⟩⟩
  exact ⟨Oof F σ η2, x, y, _, R2'.trO, r1'.car e2.car, rw', h2, fun z u H3 pz s rz => k z η2 u H3 pz ((e1.trans e2).trans (.same s)) (R2'.same s) rz⟩
theorem z_cmp {op : CmpOp} {r : R2p} (ho : OpR X (compareOp op) (r2 X.K r)) (ha : PE X a (up X.K T ta)) (hb : PE X b (up X.K T tb)) (hm : behindInMarks op b = false := by first | exact nomark _ | rfl) : PE X (.Compare a [op] [b] pos) (up X.K T (tOpP r ta tb)) := by
  refine PE.weak (pe_cmpR ho ha hb hm) fun σ H Q q => ?_
  obtain ⟨F, η, P, R, h, k⟩ := q
  refine ⟨F, η, _, R, h, fun x η1 v H1 h1 e1 R1 r1' => ⟨F, η1, _, R1, h1, fun y η2 w H2 h2 e2 R2' rw' => ?_⟩⟩
  exact ⟨Oof F σ η2, x, y, _, R2'.trO, r1'.car e2.car, rw', h2, fun z u H3 pz s rz => k z η2 u H3 pz ((e1.trans e2).trans (.same s)) (R2'.same s) rz⟩
def tChainP (r r' : R2p) (ta tb tc : TEp) : TEp := fun η P => ta η fun x η1 => tb η1 fun y η2 => r x y fun z => ∃ k, z = .bl k ∧ if k = true then tc η2 fun w η3 => r' y w fun z' => P z' η3 else P (.bl false) η2
theorem za_nil : PA X [] (upA X.K T tNilP) := by
  refine PA.weak pa_nil fun σ H Q q => ?_
  obtain ⟨F, η, P, R, h, k⟩ := q
  exact k [] η [] H h .refl R .nil
theorem za_cons (ha : PE X e (up X.K T ta)) (hr : PA X es (upA X.K T t)) (hs : starEach (e :: es) X.env = (false, eval e X.env) :: starEach es X.env := by rfl) : PA X (e :: es) (upA X.K T (tConsP ta t)) := by
  refine PA.weak (pa_cons ha hr hs) fun σ H Q q => ?_
  obtain ⟨F, η, P, R, h, k⟩ := q
  refine ⟨F, η, _, R, h, fun x η1 v H1 h1 e1 R1 r1' => ⟨F, η1, _, R1, h1, fun y η2 w H2 h2 e2 R2' rw' => ?_⟩⟩
  exact k (x :: y) η2 (v :: w) H2 h2 (e1.trans e2) R2' (.cons (r1'.car e2.car) rw')
theorem z_callB {x : Str} {id : String} {r : R1p} {p : Pos} (hc : CallR X (.builtin id) (r1 X.K r)) (hg : Gl X x) (hm : X.mg x = none) (hv : bootBuiltins x = some (.builtin id)) (ha : PA X (e :: es) (upA X.K T t)) (hn : x ≠ "__name__" := by decide) (hdb : (x == ("__debug__" : Str)) = false := by decide)
    (he : starEach (e :: es) X.env = (false, eval e X.env) :: starEach es X.env := by rfl) (hpl : (backTo pos (starEach es X.env)).any (·.1) = false := by rfl) : PE X (.Call (.Name x p) (e :: es) [] pos) (up X.K T (tCBP r t)) := by
  refine PE.weak (pe_callB hc hg hm hv ha hn hdb he hpl) fun σ H Q q => ?_
  obtain ⟨F, η, P, R, h, k⟩ := q
  refine ⟨F, η, _, R, h, fun x η1 v H1 h1 e1 R1 r1' => ?_⟩
  exact ⟨Oof F σ η1, x, _, R1.trO, r1', h1, fun z u H3 pz s rz => k z η1 u H3 pz (e1.trans (.same s)) (R1.same s) rz⟩
theorem z_callTy {x : Str} {id : String} {r : R1p} {p : Pos} (hc : CallR X (.type id) (r1 X.K r)) (hg : Gl X x) (hm : X.mg x = none) (hv : bootBuiltins x = some (.type id)) (ha : PA X (e :: es) (upA X.K T t)) (hn : x ≠ "__name__" := by decide) (hdb : (x == ("__debug__" : Str)) = false := by decide)
    (he : starEach (e :: es) X.env = (false, eval e X.env) :: starEach es X.env := by rfl) (hpl : (backTo pos (starEach es X.env)).any (·.1) = false := by rfl) : PE X (.Call (.Name x p) (e :: es) [] pos) (up X.K T (tCBP r t)) := by
  refine PE.weak (pe_callTy hc hg hm hv ha hn hdb he hpl) fun σ H Q q => ?_
  obtain ⟨F, η, P, R, h, k⟩ := q
  refine ⟨F, η, _, R, h, fun x η1 v H1 h1 e1 R1 r1' => ?_⟩
  exact ⟨Oof F σ η1, x, _, R1.trO, r1', h1, fun z u H3 pz s rz => k z η1 u H3 pz (e1.trans (.same s)) (R1.same s) rz⟩
/-! displays -/
def tTupP (t : TAp) : TEp := fun η P => t η fun xs η1 => xs.length ≤ sizeLine ∧ P (.tup xs) η1
def tLstP (t : TAp) : TEp := fun η P => t η fun xs η1 => xs.length ≤ sizeLine ∧ P (.lst xs) η1
theorem rep_newT {K : PySem.W.Frag} {O : Addr → Prop} {H : Hp} {p : Addr} {xs : List PV} {vs : List V} (tr : Trk O H) (hp : H p = none) (r : Reps K O H xs vs) : Rep K O (upd H p (.tup vs)) (.tup xs) (.ref p) := by
  unfold Rep
  exact ⟨p, vs, rfl, .inl ⟨tr.fresh hp, .inl upd_same⟩, r.car (Car.same (Same.new hp))⟩
theorem rep_newL {K : PySem.W.Frag} {O : Addr → Prop} {H : Hp} {p : Addr} {xs : List PV} {vs : List V} (tr : Trk O H) (hp : H p = none) (r : Reps K O H xs vs) : Rep K O (upd H p (.lst vs)) (.lst xs) (.ref p) := by
  unfold Rep
  exact ⟨p, vs, rfl, tr.fresh hp, upd_same, r.car (Car.same (Same.new hp))⟩
theorem z_tup {x1} (h : PA X es (upA X.K T t)) : PE X (.Tuple es x1 pos) (up X.K T (tTupP t)) := by
  refine PE.weak (pe_tup h) fun σ H Q q => ?_
  obtain ⟨F, η, P, R, h, k⟩ := q
  refine ⟨F, η, _, R, h, fun xs η1 vs H1 h1 e1 R1 r1' => ⟨by rw [r1'.len]; exact h1.1, fun p hp => ?_⟩⟩
  exact k _ η1 _ _ h1.2 (e1.trans (.same (Same.new hp))) (R1.same (Same.new hp)) (rep_newT R1.trO hp r1')
theorem z_lst (h : PA X es (upA X.K T t)) : PE X (.List es pos) (up X.K T (tLstP t)) := by
  refine PE.weak (pe_lst h) fun σ H Q q => ?_
  obtain ⟨F, η, P, R, h, k⟩ := q
  refine ⟨F, η, _, R, h, fun xs η1 vs H1 h1 e1 R1 r1' => ⟨by rw [r1'.len]; exact h1.1, fun p hp => ?_⟩⟩
  exact k _ η1 _ _ h1.2 (e1.trans (.same (Same.new hp))) (R1.same (Same.new hp)) (rep_newL R1.trO hp r1')
/-! tests -/
def truth : PV → Option Bool
  | .bl b => some b
  | .non => some false
  | .int i => some (i != 0)
  | .lst xs => some (!xs.isEmpty)
  | .tup xs => some (!xs.isEmpty)
  | _ => none
def tBlP (ta : TEp) : TTp := fun η P => ta η fun x η1 => match x with | .bl b => P b η1 | _ => False
theorem zt_val (h : PE X e (up X.K T ta)) (he : ∀ whole, isTrue e X.env whole = (do let v ← whole; standAt e.pos; holding [v] (truthy v)) := by intro _; rfl) : PT X e (upB X.K T (tBlP ta)) := by
  refine PT.weak (pt_val h he) fun σ H Q q => ?_
  obtain ⟨F, η, P, R, h, k⟩ := q
  refine ⟨F, η, _, R, h, fun x η1 v H1 h1 e1 R1 r1' => ?_⟩
  split at h1
  · unfold Rep at r1'
    exact ⟨_, r1', k _ η1 H1 h1 e1 R1⟩
  · cases h1
theorem zt_cmp {op : CmpOp} {r : R2p} (ho : OpR X (compareOp op) (r2 X.K r)) (ha : PE X a (up X.K T ta)) (hb : PE X b (up X.K T tb)) (hm : behindInMarks op b = false := by first | exact nomark _ | rfl) : PT X (.Compare a [op] [b] pos) (upB X.K T (tBlP (tOpP r ta tb))) := by
  refine PT.weak (pt_cmpR ho ha hb hm) fun σ H Q q => ?_
  obtain ⟨F, η, P, R, h, k⟩ := q
  refine ⟨F, η, _, R, h, fun x η1 v H1 h1 e1 R1 r1' => ⟨F, η1, _, R1, h1, fun y η2 w H2 h2 e2 R2' rw' => ?_⟩⟩
  refine ⟨Oof F σ η2, x, y, _, R2'.trO, r1'.car e2.car, rw', h2, fun z u H3 pz s rz => ?_⟩
  dsimp only at pz
  split at pz
  · unfold Rep at rz
    exact ⟨_, rz, k _ η2 H3 pz ((e1.trans e2).trans (.same s)) (R2'.same s)⟩
  · cases pz
theorem z_chain {op op' : CmpOp} {r r' : R2p} (ho : OpR X (compareOp op) (r2 X.K r)) (ho' : OpR X (compareOp op') (r2 X.K r')) (ha : PE X a (up X.K T ta)) (hb : PE X b (up X.K T tb)) (hc : PE X c (up X.K T tc))
    (pf : PE X (.Compare a [op, op'] [b, c] pos) (tChain (r2 X.K r) (r2 X.K r') (up X.K T ta) (up X.K T tb) (up X.K T tc))) : PE X (.Compare a [op, op'] [b, c] pos) (up X.K T (tChainP r r' ta tb tc)) := by
  refine PE.weak pf fun σ H Q q => ?_
  obtain ⟨F, η, P, R, h, k⟩ := q
  refine ⟨F, η, _, R, h, fun x η1 v H1 h1 e1 R1 r1' => ⟨F, η1, _, R1, h1, fun y η2 w H2 h2 e2 R2' rw' => ?_⟩⟩
  refine ⟨Oof F σ η2, x, y, _, R2'.trO, r1'.car e2.car, rw', h2, fun z u H3 pz s rz => ?_⟩
  obtain ⟨kk, rfl, pz⟩ := pz
  unfold Rep at rz
  refine ⟨kk, rz, ?_⟩
  cases kk with
  | false => exact k _ η2 _ H3 pz ((e1.trans e2).trans (.same s)) (R2'.same s) (by unfold Rep; rfl)
  | true =>
    simp only [if_true] at pz ⊢
    refine ⟨F, η2, _, R2'.same s, pz, fun z' η3 u' H4 h4 e4 R4 r4 => ?_⟩
    exact ⟨Oof F σ η3, y, z', _, R4.trO, (rw'.car (Car.same s)).car e4.car, r4, h4, fun z2 u2 H5 p5 s5 r5 => k z2 η3 u2 H5 p5 ((((e1.trans e2).trans (.same s)).trans e4).trans (.same s5)) (R4.same s5) r5⟩
def tAndP (t u : TTp) : TTp := fun η P => t η fun c η1 => if c = true then u η1 P else P false η1
def tOrP (t u : TTp) : TTp := fun η P => t η fun c η1 => if c = true then P true η1 else u η1 P
def tNotP (t : TTp) : TTp := fun η P => t η fun c η1 => P (!c) η1
variable {rest : List Expr} {tA tB : TTp}
theorem zw_and1 (ha : PT X a (upB X.K T tA)) : PW X (.BoolOp .And [a] pos) (upB X.K T tA) := pw_and1 ha
theorem zw_or1 (ha : PT X a (upB X.K T tA)) : PW X (.BoolOp .Or [a] pos) (upB X.K T tA) := pw_or1 ha
theorem zw_and (ha : PT X a (upB X.K T tA)) (hb : PW X (.BoolOp .And (b :: rest) pos) (upB X.K T tB)) : PW X (.BoolOp .And (a :: b :: rest) pos) (upB X.K T (tAndP tA tB)) := by
  refine PW.weak (pw_and ha hb) fun σ H Q q => ?_
  obtain ⟨F, η, P, R, h, k⟩ := q
  refine ⟨F, η, _, R, h, fun x η1 H1 h1 e1 R1 => ?_⟩
  cases x with
  | false => exact k _ _ _ h1 e1 R1
  | true =>
    simp only [if_true] at h1 ⊢
    exact ⟨F, η1, _, R1, h1, fun y η2 H2 h2 e2 R2' => k _ _ _ h2 (e1.trans e2) R2'⟩
theorem zw_or (ha : PT X a (upB X.K T tA)) (hb : PW X (.BoolOp .Or (b :: rest) pos) (upB X.K T tB)) : PW X (.BoolOp .Or (a :: b :: rest) pos) (upB X.K T (tOrP tA tB)) := by
  refine PW.weak (pw_or ha hb) fun σ H Q q => ?_
  obtain ⟨F, η, P, R, h, k⟩ := q
  refine ⟨F, η, _, R, h, fun x η1 H1 h1 e1 R1 => ?_⟩
  cases x with
  | true => exact k _ _ _ h1 e1 R1
  | false =>
    simp only [Bool.false_eq_true, if_false] at h1 ⊢
    exact ⟨F, η1, _, R1, h1, fun y η2 H2 h2 e2 R2' => k _ _ _ h2 (e1.trans e2) R2'⟩
theorem zt_not (ha : PT X a (upB X.K T tA)) : PT X (.UnaryOp .Not a pos) (upB X.K T (tNotP tA)) := by
  refine PT.weak (pt_not ha) fun σ H Q q => ?_
  obtain ⟨F, η, P, R, h, k⟩ := q
  exact ⟨F, η, _, R, h, fun x η1 H1 h1 e1 R1 => k _ _ _ h1 e1 R1⟩
def tAndVP (ta tb : TEp) : TEp := fun η P => ta η fun x η1 => match x with | .bl true => tb η1 P | .bl false => P (.bl false) η1 | _ => False
def tOrVP (ta tb : TEp) : TEp := fun η P => ta η fun x η1 => match x with | .bl false => tb η1 P | .bl true => P (.bl true) η1 | _ => False
def tNotVP (ta : TEp) : TEp := fun η P => ta η fun x η1 => match x with | .bl b => P (.bl (!b)) η1 | _ => False
theorem z_one {op} (h : PE X a (up X.K T ta)) : PE X (.BoolOp op [a] pos) (up X.K T ta) := pe_one h
theorem z_and (ha : PE X a (up X.K T ta)) (hb : PE X (.BoolOp .And (b :: rest) pos) (up X.K T tb)) : PE X (.BoolOp .And (a :: b :: rest) pos) (up X.K T (tAndVP ta tb)) := by
  refine PE.weak (pe_and ha hb) fun σ H Q q => ?_
  obtain ⟨F, η, P, R, h, k⟩ := q
  refine ⟨F, η, _, R, h, fun x η1 v H1 h1 e1 R1 r => ?_⟩
  split at h1
  · unfold Rep at r
    exact ⟨true, r, F, η1, _, R1, h1, fun y η2 w H2 h2 e2 R2' r2' => k _ _ _ _ h2 (e1.trans e2) R2' r2'⟩
  · have r' := r
    unfold Rep at r'
    exact ⟨false, r', k _ _ _ _ h1 e1 R1 (by unfold Rep; rfl)⟩
  · cases h1
theorem z_or (ha : PE X a (up X.K T ta)) (hb : PE X (.BoolOp .Or (b :: rest) pos) (up X.K T tb)) : PE X (.BoolOp .Or (a :: b :: rest) pos) (up X.K T (tOrVP ta tb)) := by
  refine PE.weak (pe_or ha hb) fun σ H Q q => ?_
  obtain ⟨F, η, P, R, h, k⟩ := q
  refine ⟨F, η, _, R, h, fun x η1 v H1 h1 e1 R1 r => ?_⟩
  split at h1
  · unfold Rep at r
    exact ⟨false, r, F, η1, _, R1, h1, fun y η2 w H2 h2 e2 R2' r2' => k _ _ _ _ h2 (e1.trans e2) R2' r2'⟩
  · have r' := r
    unfold Rep at r'
    exact ⟨true, r', k _ _ _ _ h1 e1 R1 (by unfold Rep; rfl)⟩
  · cases h1
theorem z_not (ha : PE X a (up X.K T ta)) : PE X (.UnaryOp .Not a pos) (up X.K T (tNotVP ta)) := by
  refine PE.weak (pe_not ha) fun σ H Q q => ?_
  obtain ⟨F, η, P, R, h, k⟩ := q
  refine ⟨F, η, _, R, h, fun x η1 v H1 h1 e1 R1 r => ?_⟩
  split at h1
  · unfold Rep at r
    exact ⟨_, r, k _ _ _ _ h1 e1 R1 (by unfold Rep; rfl)⟩
  · cases h1
def tIfP (t : TTp) (ta tb : TEp) : TEp := fun η P => t η fun c η1 => if c = true then ta η1 P else tb η1 P
theorem z_ifExp (hc : PT X c (upB X.K T tA)) (ha : PE X a (up X.K T ta)) (hb : PE X b (up X.K T tb)) : PE X (.IfExp c a b pos) (up X.K T (tIfP tA ta tb)) := by
  refine PE.weak (pe_ifExp hc ha hb) fun σ H Q q => ?_
  obtain ⟨F, η, P, R, h, k⟩ := q
  refine ⟨F, η, _, R, h, fun x η1 H1 h1 e1 R1 => ?_⟩
  cases x with
  | true =>
    simp only [if_true] at h1 ⊢
    exact ⟨F, η1, _, R1, h1, fun y η2 w H2 h2 e2 R2' r2' => k _ _ _ _ h2 (e1.trans e2) R2' r2'⟩
  | false =>
    simp only [Bool.false_eq_true, if_false] at h1 ⊢
    exact ⟨F, η1, _, R1, h1, fun y η2 w H2 h2 e2 R2' r2' => k _ _ _ _ h2 (e1.trans e2) R2' r2'⟩
end
end Z
set_option Elab.async false
set_option linter.all false
set_option maxRecDepth 100000
namespace Z
open PySem PySem.Spec L2
open PyProof.Rows hiding St
section
variable {X : Cx}
theorem OpR.weak {f : Value → Value → Sem Value} {r r' : R2} (h : OpR X f r) (w : ∀ x y H Q, r' x y H Q → r x y H Q) : OpR X f r' := fun pins s σ H x y v u Q I rx ry q => h pins s σ H x y v u Q I rx ry (w _ _ _ _ q)
theorem CallR.weak {f : Value} {r r' : List V → Hp → VK → Prop} (h : CallR X f r) (w : ∀ x H Q, r' x H Q → r x H Q) : CallR X f r' := fun pins s σ H xs us Q I r q => h pins s σ H xs us Q I r (w _ _ _ q)
variable {K : PySem.W.Frag} {O : Addr → Prop} {H : Hp} {v : V} {P : PV → Prop} {Q : VK}
-- inversion
theorem Rep.int_ {i} (h : Rep K O H (.int i) v) : v = .int i := by unfold Rep at h; exact h
theorem Rep.str_ {i} (h : Rep K O H (.str i) v) : v = .str i := by unfold Rep at h; exact h
theorem Rep.bl_ {i} (h : Rep K O H (.bl i) v) : v = .bl i := by unfold Rep at h; exact h
theorem Rep.non_ (h : Rep K O H .non v) : v = .non := by unfold Rep at h; exact h
theorem Rep.raw_ {u} (h : Rep K O H (.raw u) v) : v = u := by unfold Rep at h; exact h
theorem Rep.lst_ {xs} (h : Rep K O H (.lst xs) v) : ∃ a vs, v = .ref a ∧ ¬ O a ∧ H a = some (.lst vs) ∧ Reps K O H xs vs := by unfold Rep at h; exact h
theorem Rep.tup_ {xs} (h : Rep K O H (.tup xs) v) : ∃ a vs, v = .ref a ∧ TupAt K O H a vs ∧ Reps K O H xs vs := by unfold Rep at h; exact h
theorem Rep.scr_ {ns} (h : Rep K O H (.scr ns) v) : ∃ a o, v = .ref a ∧ ¬ O a ∧ H a = some (.frz o (.lst (ns.map V.int))) := by unfold Rep at h; exact h
theorem Rep.ins_ {C fs} (h : Rep K O H (.ins C fs) v) : ∃ a dx ws, v = .ref a ∧ ¬ O a ∧ H a = some (.ins C dx ws) ∧ RepF K O H fs ws := by unfold Rep at h; exact h
theorem rep_int {i} : Rep K O H (.int i) (.int i) := by unfold Rep; rfl
theorem rep_str {i} : Rep K O H (.str i) (.str i) := by unfold Rep; rfl
theorem rep_bl {i} : Rep K O H (.bl i) (.bl i) := by unfold Rep; rfl
theorem rep_non : Rep K O H .non .non := by unfold Rep; rfl
theorem Out.int {i} (h : Out K O H P Q) (p : P (.int i)) : Q (.int i) H := h _ _ _ p (Same.refl _) rep_int
theorem Out.str {i} (h : Out K O H P Q) (p : P (.str i)) : Q (.str i) H := h _ _ _ p (Same.refl _) rep_str
theorem Out.bl {i} (h : Out K O H P Q) (p : P (.bl i)) : Q (.bl i) H := h _ _ _ p (Same.refl _) rep_bl
theorem Out.non (h : Out K O H P Q) (p : P .non) : Q .non H := h _ _ _ p (Same.refl _) rep_non
theorem Out.newL {xs vs} {p : Addr} (h : Out K O H P Q) (q : P (.lst xs)) (tr : Trk O H) (r : Reps K O H xs vs) (hp : H p = none) : Q (.ref p) (upd H p (.lst vs)) := h _ _ _ q (Same.new hp) (rep_newL tr hp r)
theorem Out.newT {xs vs} {p : Addr} (h : Out K O H P Q) (q : P (.tup xs)) (tr : Trk O H) (r : Reps K O H xs vs) (hp : H p = none) : Q (.ref p) (upd H p (.tup vs)) := h _ _ _ q (Same.new hp) (rep_newT tr hp r)
/-! ### operators -/
def rAdd : R2p := fun x y P => match x, y with
  | .int i, .int j => P (.int (i + j))
  | .str x, .str y => x.length + y.length ≤ sizeLine ∧ P (.str (x ++ y))
  | .lst xs, .lst ys => xs.length + ys.length ≤ sizeLine ∧ P (.lst (xs ++ ys))
  | .tup xs, .tup ys => xs ≠ [] ∧ xs.length + ys.length ≤ sizeLine ∧ P (.tup (xs ++ ys))
  | _, _ => False
theorem zo_add : OpR X (binaryOp .Add) (r2 X.K rAdd) := by
  refine OpR.weak ((op_add (X := X)).or (op_add_str.or (op_cat.or op_catT))) fun x y H Q h => ?_
  obtain ⟨O, px, py, P, tr, hx, hy, h, k⟩ := h
  unfold rAdd at h
  split at h
  · exact .inl ⟨_, _, hx.int_, hy.int_, k.int h⟩
  · exact .inr (.inl ⟨_, _, hx.str_, hy.str_, h.1, k.str h.2⟩)
  · obtain ⟨a, vs, e1, n1, h1, q1⟩ := hx.lst_
    obtain ⟨b, us, e2, n2, h2, q2⟩ := hy.lst_
    exact .inr (.inr (.inl ⟨a, b, vs, us, e1, e2, h1, h2, by rw [q1.len, q2.len]; exact h.1, fun p hp => k.newL h.2 tr (q1.app q2) hp⟩))
  · obtain ⟨a, vs, e1, h1, q1⟩ := hx.tup_
    obtain ⟨b, us, e2, h2, q2⟩ := hy.tup_
    refine .inr (.inr (.inr ⟨a, b, vs, us, e1, e2, h1.sq, h2.sq, fun z => h.1 (by rw [z] at q1; exact List.length_eq_zero_iff.mp q1.len.symm), by rw [q1.len, q2.len]; exact h.2.1, fun z => ?_, fun _ p hp => k.newT h.2.2 tr (q1.app q2) hp⟩))
    refine k _ _ _ h.2.2 (Same.refl _) ?_
    unfold Rep
    exact ⟨a, vs, rfl, h1, by have := q1.app q2; rw [z, List.append_nil] at this; exact this⟩
  · cases h
def rSub : R2p := fun x y P => match x, y with
  | .int i, .int j => P (.int (i - j))
  | _, _ => False
theorem zo_sub : OpR X (binaryOp .Sub) (r2 X.K rSub) := by
  refine OpR.weak (op_sub (X := X)) fun x y H Q h => ?_
  obtain ⟨O, px, py, P, tr, hx, hy, h, k⟩ := h
  unfold rSub at h
  split at h
  · exact ⟨_, _, hx.int_, hy.int_, k.int h⟩
  · cases h
def rMul : R2p := fun x y P => match x, y with
  | .int i, .int j => CMul i j ∧ P (.int (i * j))
  | .lst xs, .int k => -(2 ^ 63) ≤ k ∧ k < 2 ^ 63 ∧ xs.length * k.toNat ≤ sizeLine ∧ P (.lst (List.replicate k.toNat xs).flatten)
  | _, _ => False
theorem Reps.flat {xs vs} (h : Reps K O H xs vs) : ∀ n, Reps K O H (List.replicate n xs).flatten (List.replicate n vs).flatten
  | 0 => by simp; exact .nil
  | n + 1 => by simp only [List.replicate_succ, List.flatten_cons]; exact h.app (h.flat n)
theorem zo_mul : OpR X (binaryOp .Mult) (r2 X.K rMul) := by
  refine OpR.weak ((op_mul (X := X)).or op_rep) fun x y H Q h => ?_
  obtain ⟨O, px, py, P, tr, hx, hy, h, k⟩ := h
  unfold rMul at h
  split at h
  · exact .inl ⟨_, _, hx.int_, hy.int_, h.1, k.int h.2⟩
  · obtain ⟨a, vs, e1, n1, h1, q1⟩ := hx.lst_
    exact .inr ⟨a, _, vs, e1, hy.int_, h1, h.1, h.2.1, by rw [q1.len]; exact h.2.2.1, fun p hp => k.newL h.2.2.2 tr (q1.flat _) hp⟩
  · cases h
def rDiv : R2p := fun x y P => match x, y with
  | .int i, .int j => CDiv i j ∧ P (.int (i / j))
  | _, _ => False
theorem zo_div : OpR X (binaryOp .FloorDiv) (r2 X.K rDiv) := by
  refine OpR.weak (op_fdiv (X := X)) fun x y H Q h => ?_
  obtain ⟨O, px, py, P, tr, hx, hy, h, k⟩ := h
  unfold rDiv at h
  split at h
  · exact ⟨_, _, hx.int_, hy.int_, h.1, k.int h.2⟩
  · cases h
def rMod : R2p := fun x y P => match x, y with
  | .int i, .int j => 0 < j ∧ P (.int (i % j))
  | _, _ => False
theorem zo_mod : OpR X (binaryOp .Mod) (r2 X.K rMod) := by
  refine OpR.weak (op_mod (X := X)) fun x y H Q h => ?_
  obtain ⟨O, px, py, P, tr, hx, hy, h, k⟩ := h
  unfold rMod at h
  split at h
  · exact ⟨_, _, hx.int_, hy.int_, h.1, k.int h.2⟩
  · cases h
def rPow : R2p := fun x y P => match x, y with
  | .int i, .int j => CPow i j ∧ P (.int (i ^ j.toNat))
  | _, _ => False
theorem zo_pow : OpR X (binaryOp .Pow) (r2 X.K rPow) := by
  refine OpR.weak (op_pow (X := X)) fun x y H Q h => ?_
  obtain ⟨O, px, py, P, tr, hx, hy, h, k⟩ := h
  unfold rPow at h
  split at h
  · exact ⟨_, _, hx.int_, hy.int_, h.1, k.int h.2⟩
  · cases h
/-! ### comparisons -/
def rLt : R2p := fun x y P => match x, y with
  | .int i, .int j => P (.bl (decide (i < j)))
  | .str x, .str y => P (.bl (decide (x.cps.toList < y.cps.toList)))
  | _, _ => False
theorem zo_lt : OpR X (compareOp .Lt) (r2 X.K rLt) := by
  refine OpR.weak ((op_lt (X := X)).or op_lt_str) fun x y H Q h => ?_
  obtain ⟨O, px, py, P, tr, hx, hy, h, k⟩ := h
  unfold rLt at h
  split at h
  · exact .inl ⟨_, _, hx.int_, hy.int_, k.bl h⟩
  · exact .inr ⟨_, _, hx.str_, hy.str_, k.bl h⟩
  · cases h
def rGt : R2p := fun x y P => match x, y with
  | .int i, .int j => P (.bl (decide (j < i)))
  | _, _ => False
theorem zo_gt : OpR X (compareOp .Gt) (r2 X.K rGt) := by
  refine OpR.weak (op_gt (X := X)) fun x y H Q h => ?_
  obtain ⟨O, px, py, P, tr, hx, hy, h, k⟩ := h
  unfold rGt at h
  split at h
  · exact ⟨_, _, hx.int_, hy.int_, k.bl h⟩
  · cases h
def rGe : R2p := fun x y P => match x, y with
  | .int i, .int j => P (.bl (decide (j ≤ i)))
  | _, _ => False
theorem zo_ge : OpR X (compareOp .GtE) (r2 X.K rGe) := by
  refine OpR.weak (op_ge (X := X)) fun x y H Q h => ?_
  obtain ⟨O, px, py, P, tr, hx, hy, h, k⟩ := h
  unfold rGe at h
  split at h
  · exact ⟨_, _, hx.int_, hy.int_, k.bl h⟩
  · cases h
end
end Z
set_option Elab.async false
set_option linter.all false
set_option maxRecDepth 100000
namespace Z
open PySem PySem.Spec L2
open PyProof.Rows hiding St
/-! ### data -/
mutual
def toD : PV → Option PyData
  | .non => some .none
  | .bl b => some (.bool b)
  | .int i => some (.int i)
  | .str x => some (.str x)
  | .tup xs => (toDs xs).map .tuple
  | .lst xs => (toDs xs).map .list
  | .scr _ => none
  | .ins _ _ => none
  | .dic0 => none
  | .raw _ => none
def toDs : List PV → Option (List PyData)
  | [] => some []
  | x :: xs => match toD x, toDs xs with
    | some d, some ds => some (d :: ds)
    | _, _ => none
end
theorem toDs_cons {x : PV} {xs : List PV} {ds : List PyData} (h : toDs (x :: xs) = some ds) : ∃ d r, ds = d :: r ∧ toD x = some d ∧ toDs xs = some r := by
  unfold toDs at h
  split at h
  · rename_i d r h1 h2
    cases h
    exact ⟨d, r, rfl, h1, h2⟩
  · cases h
section
variable {K : PySem.W.Frag} {O : Addr → Prop} {H : Hp}
mutual
theorem Rep.dp : ∀ (x : PV) (v : V) (d : PyData), Rep K O H x v → toD x = some d → Dp K H v d
  | .non, _, _, h, e => by cases h.non_; unfold toD at e; cases e; exact .non
  | .bl _, _, _, h, e => by cases h.bl_; unfold toD at e; cases e; exact .bl _
  | .int _, _, _, h, e => by cases h.int_; unfold toD at e; cases e; exact .int _
  | .str _, _, _, h, e => by cases h.str_; unfold toD at e; cases e; exact .str _
  | .tup xs, _, _, h, e => by
    obtain ⟨a, vs, rfl, t, r⟩ := h.tup_
    unfold toD at e
    cases q : toDs xs with
    | none => rw [q] at e; cases e
    | some ds => rw [q] at e; cases e; exact .tup t.sq (Reps.dp xs vs ds r q)
  | .lst xs, _, _, h, e => by
    obtain ⟨a, vs, rfl, n, t, r⟩ := h.lst_
    unfold toD at e
    cases q : toDs xs with
    | none => rw [q] at e; cases e
    | some ds => rw [q] at e; cases e; exact .lst (SqL.of t) (Reps.dp xs vs ds r q)
  | .scr _, _, _, _, e => by unfold toD at e; cases e
  | .ins _ _, _, _, _, e => by unfold toD at e; cases e
  | .dic0, _, _, _, e => by unfold toD at e; cases e
  | .raw _, _, _, _, e => by unfold toD at e; cases e
theorem Reps.dp : ∀ (xs : List PV) (vs : List V) (ds : List PyData), Reps K O H xs vs → toDs xs = some ds → DpAll K H vs ds
  | [], _, _, h, e => by rw [h.inv0]; unfold toDs at e; cases e; exact .nil
  | x :: xs, _, _, h, e => by
    obtain ⟨v, us, rfl, r, t⟩ := h.inv
    obtain ⟨d, ds, rfl, h1, h2⟩ := toDs_cons e
    exact .cons (Rep.dp x v d r h1) (Reps.dp xs us ds t h2)
end
end
section
variable {X : Cx}
/-! ### equality of data -/
def rEqP (neg : Bool) : R2p := fun x y P => ∃ d e, toD x = some d ∧ toD y = some e ∧ SeqAt.shaped d = true ∧ SeqAt.shaped e = true ∧ P (.bl (if neg then !PyData.eqv d e else PyData.eqv d e))
theorem zo_eq (hu : X.A.units + 64 < cLine) : OpR X (compareOp .Eq) (r2 X.K (rEqP false)) := by
  refine OpR.weak (op_eqD hu) fun x y H Q h => ?_
  obtain ⟨O, px, py, P, tr, hx, hy, ⟨d, e, h1, h2, h3, h4, h⟩, k⟩ := h
  exact ⟨d, e, Rep.dp _ _ _ hx h1, Rep.dp _ _ _ hy h2, h3, h4, k.bl h⟩
theorem zo_ne (hu : X.A.units + 64 < cLine) : OpR X (compareOp .NotEq) (r2 X.K (rEqP true)) := by
  refine OpR.weak (op_neD hu) fun x y H Q h => ?_
  obtain ⟨O, px, py, P, tr, hx, hy, ⟨d, e, h1, h2, h3, h4, h⟩, k⟩ := h
  exact ⟨d, e, Rep.dp _ _ _ hx h1, Rep.dp _ _ _ hy h2, h3, h4, k.bl h⟩
/-- ints -/
def rEqI (neg : Bool) : R2p := fun x y P => match x, y with
  | .int i, .int j => P (.bl (if neg then !decide (i = j) else decide (i = j)))
  | .str i, .str j => P (.bl (if neg then !decide (i = j) else decide (i = j)))
  | .bl i, .bl j => P (.bl (if neg then !decide (i = j) else decide (i = j)))
  | _, _ => False
theorem zo_eqI : OpR X (compareOp .Eq) (r2 X.K (rEqI false)) := by
  refine OpR.weak (op_eq (X := X)) fun x y H Q h => ?_
  obtain ⟨O, px, py, P, tr, hx, hy, h, k⟩ := h
  unfold rEqI at h
  split at h
  · rw [hx.int_, hy.int_]; refine ⟨rfl, k.bl ?_⟩; simpa using h
  · rw [hx.str_, hy.str_]; refine ⟨rfl, k.bl ?_⟩; simpa using h
  · rw [hx.bl_, hy.bl_]; refine ⟨rfl, k.bl ?_⟩; simpa using h
  · cases h
theorem zo_neI : OpR X (compareOp .NotEq) (r2 X.K (rEqI true)) := by
  refine OpR.weak (op_ne (X := X)) fun x y H Q h => ?_
  obtain ⟨O, px, py, P, tr, hx, hy, h, k⟩ := h
  unfold rEqI at h
  split at h
  · rw [hx.int_, hy.int_]; refine ⟨rfl, k.bl ?_⟩; simpa using h
  · rw [hx.str_, hy.str_]; refine ⟨rfl, k.bl ?_⟩; simpa using h
  · rw [hx.bl_, hy.bl_]; refine ⟨rfl, k.bl ?_⟩; simpa using h
  · cases h
def rLe : R2p := fun x y P => match x, y with
  | .int i, .int j => P (.bl (decide (i ≤ j)))
  | .str x, .str y => P (.bl (!decide (y.cps.toList < x.cps.toList)))
  | _, _ => False
theorem zo_le : OpR X (compareOp .LtE) (r2 X.K rLe) := by
  refine OpR.weak ((op_le (X := X)).or op_le_str) fun x y H Q h => ?_
  obtain ⟨O, px, py, P, tr, hx, hy, h, k⟩ := h
  unfold rLe at h
  split at h
  · exact .inl ⟨_, _, hx.int_, hy.int_, k.bl h⟩
  · exact .inr ⟨_, _, hx.str_, hy.str_, k.bl h⟩
  · cases h
/-- is None -/
def isNon : PV → Option Bool
  | .non => some true
  | .raw _ => none
  | _ => some false
def rIsN (neg : Bool) : R2p := fun x y P => match y with
  | .non => ∃ b, isNon x = some b ∧ P (.bl (if neg then !b else b))
  | _ => False
theorem isNon_rep {K : PySem.W.Frag} {O : Addr → Prop} {H : Hp} {x : PV} {v : V} {b : Bool} (h : Rep K O H x v) (e : isNon x = some b) : decide (v = .non) = b := by
  cases x <;> unfold isNon at e <;> try (cases e)
  · rw [h.non_]; rfl
  · rw [h.bl_]; rfl
  · rw [h.int_]; rfl
  · rw [h.str_]; rfl
  · obtain ⟨a, vs, rfl, _⟩ := h.tup_; rfl
  · obtain ⟨a, vs, rfl, _⟩ := h.lst_; rfl
  · obtain ⟨a, vs, rfl, _⟩ := h.scr_; rfl
  · obtain ⟨a, vs, _, rfl, _⟩ := h.ins_; rfl
  · unfold Rep at h; obtain ⟨a, rfl, _⟩ := h; rfl
theorem zo_is : OpR X (compareOp .Is) (r2 X.K (rIsN false)) := by
  refine OpR.weak (op_isN (X := X)) fun x y H Q h => ?_
  obtain ⟨O, px, py, P, tr, hx, hy, h, k⟩ := h
  unfold rIsN at h
  split at h
  · obtain ⟨b, h1, h2⟩ := h
    refine ⟨hy.non_, ?_⟩
    rw [isNon_rep hx h1]; exact k.bl h2
  · cases h
theorem zo_isnot : OpR X (compareOp .IsNot) (r2 X.K (rIsN true)) := by
  refine OpR.weak (op_notN (X := X)) fun x y H Q h => ?_
  obtain ⟨O, px, py, P, tr, hx, hy, h, k⟩ := h
  unfold rIsN at h
  split at h
  · obtain ⟨b, h1, h2⟩ := h
    refine ⟨hy.non_, ?_⟩
    rw [isNon_rep hx h1]; exact k.bl h2
  · cases h
/-- one sign in a text -/
def rInS (neg : Bool) : R2p := fun x y P => match x, y with
  | .str a, .str z => ∃ c, a = ⟨#[c]⟩ ∧ P (.bl (if neg then !decide (c ∈ z.cps.toList) else decide (c ∈ z.cps.toList)))
  | _, _ => False
theorem zo_in : OpR X (compareOp .In) (r2 X.K (rInS false)) := by
  refine OpR.weak (op_in_sign (X := X)) fun x y H Q h => ?_
  obtain ⟨O, px, py, P, tr, hx, hy, h, k⟩ := h
  unfold rInS at h
  split at h
  · obtain ⟨c, rfl, h⟩ := h
    exact ⟨c, _, hx.str_, hy.str_, k.bl h⟩
  · cases h
/-! ### built-ins -/
def rLen : R1p := fun ps P => match ps with
  | [.str x] => x.length ≤ sizeLine ∧ P (.int x.length)
  | [.lst xs] => P (.int xs.length)
  | [.tup xs] => P (.int xs.length)
  | [.scr xs] => P (.int xs.length)
  | _ => False
theorem zc_len : CallR X (.builtin "len") (r1 X.K rLen) := by
  refine CallR.weak (call_len (X := X)) fun xs H Q h => ?_
  obtain ⟨O, ps, P, tr, hx, h, k⟩ := h
  unfold rLen at h
  split at h
  · obtain ⟨v, us, rfl, r, t⟩ := hx.inv
    cases t.inv0; cases r.str_
    exact ⟨_, _, rfl, ⟨h.1, rfl⟩, k.int h.2⟩
  · obtain ⟨v, us, rfl, r, t⟩ := hx.inv
    cases t.inv0
    obtain ⟨a, vs, rfl, n, q, rr⟩ := r.lst_
    exact ⟨_, _, rfl, .inl ⟨vs, SqL.of q, rfl⟩, by rw [rr.len]; exact k.int h⟩
  · obtain ⟨v, us, rfl, r, t⟩ := hx.inv
    cases t.inv0
    obtain ⟨a, vs, rfl, q, rr⟩ := r.tup_
    exact ⟨_, _, rfl, .inr ⟨vs, q.sq, rfl⟩, by rw [rr.len]; exact k.int h⟩
  · obtain ⟨v, us, rfl, r, t⟩ := hx.inv
    cases t.inv0
    obtain ⟨a, o, rfl, n, q⟩ := r.scr_
    exact ⟨_, _, rfl, .inl ⟨_, .inl (.inr ⟨o, q⟩), rfl⟩, by rw [List.length_map]; exact k.int h⟩
  · cases h
def rAbs : R1p := fun ps P => match ps with
  | [.int i] => P (.int (if i < 0 then -i else i))
  | _ => False
theorem zc_abs : CallR X (.builtin "abs") (r1 X.K rAbs) := by
  refine CallR.weak (call_abs (X := X)) fun xs H Q h => ?_
  obtain ⟨O, ps, P, tr, hx, h, k⟩ := h
  unfold rAbs at h
  split at h
  · obtain ⟨v, us, rfl, r, t⟩ := hx.inv
    cases t.inv0; cases r.int_
    exact ⟨_, rfl, k.int h⟩
  · cases h
theorem Reps.two {K : PySem.W.Frag} {O H} {x y : PV} {vs : List V} (h : Reps K O H [x, y] vs) : ∃ v w, vs = [v, w] ∧ Rep K O H x v ∧ Rep K O H y w := by
  obtain ⟨v, us, rfl, r, t⟩ := h.inv
  obtain ⟨w, us, rfl, r', t⟩ := t.inv
  cases t.inv0
  exact ⟨v, w, rfl, r, r'⟩
theorem Reps.one {K : PySem.W.Frag} {O H} {x : PV} {vs : List V} (h : Reps K O H [x] vs) : ∃ v, vs = [v] ∧ Rep K O H x v := by
  obtain ⟨v, us, rfl, r, t⟩ := h.inv
  cases t.inv0
  exact ⟨v, rfl, r⟩
def rMax2 : R1p := fun ps P => match ps with
  | [.int i, .int j] => P (.int (if j > i then j else i))
  | _ => False
def rMin2 : R1p := fun ps P => match ps with
  | [.int i, .int j] => P (.int (if j < i then j else i))
  | _ => False
theorem zc_max2 (hc : X.calm = true) : CallR X (.builtin "max") (r1 X.K rMax2) := by
  refine CallR.weak (call_max2 hc) fun xs H Q h => ?_
  obtain ⟨O, ps, P, tr, hx, h, k⟩ := h
  unfold rMax2 at h
  split at h
  · obtain ⟨v, w, rfl, r, r'⟩ := hx.two
    cases r.int_; cases r'.int_
    exact ⟨_, _, rfl, k.int h⟩
  · cases h
theorem zc_min2 (hc : X.calm = true) : CallR X (.builtin "min") (r1 X.K rMin2) := by
  refine CallR.weak (call_min2 hc) fun xs H Q h => ?_
  obtain ⟨O, ps, P, tr, hx, h, k⟩ := h
  unfold rMin2 at h
  split at h
  · obtain ⟨v, w, rfl, r, r'⟩ := hx.two
    cases r.int_; cases r'.int_
    exact ⟨_, _, rfl, k.int h⟩
  · cases h
def rDivmod : R1p := fun ps P => match ps with
  | [.int i, .int j] => CDiv i j ∧ P (.tup [.int (i / j), .int (i % j)])
  | _ => False
theorem zc_divmod : CallR X (.builtin "divmod") (r1 X.K rDivmod) := by
  refine CallR.weak (call_divmod (X := X)) fun xs H Q h => ?_
  obtain ⟨O, ps, P, tr, hx, h, k⟩ := h
  unfold rDivmod at h
  split at h
  · obtain ⟨v, w, rfl, r, r'⟩ := hx.two
    cases r.int_; cases r'.int_
    exact ⟨_, _, rfl, h.1, fun p hp => k.newT h.2 tr (.cons rep_int (.cons rep_int .nil)) hp⟩
  · cases h
/-- all of a list of truths -/
def blsOf : List PV → Option (List Bool)
  | [] => some []
  | .bl b :: r => (blsOf r).map (b :: ·)
  | _ => none
theorem blsOf_rep {K : PySem.W.Frag} {O H} : ∀ {xs : List PV} {bs : List Bool} {vs : List V}, blsOf xs = some bs → Reps K O H xs vs → vs = bs.map V.bl
  | [], _, _, e, h => by unfold blsOf at e; cases e; exact h.inv0
  | x :: xs, _, _, e, h => by
    obtain ⟨v, us, rfl, r, t⟩ := h.inv
    cases x <;> unfold blsOf at e <;> try (cases e)
    cases q : blsOf xs with
    | none => rw [q] at e; cases e
    | some r' =>
      rw [q] at e; cases e
      rw [r.bl_, blsOf_rep q t]; rfl
def rAllP : R1p := fun ps P => match ps with
  | [.lst xs] => ∃ bs, blsOf xs = some bs ∧ P (.bl (bs.all id))
  | _ => False
theorem zc_all (hc : X.calm = true) : CallR X (.builtin "all") (r1 X.K rAllP) := by
  refine CallR.weak (cr_all hc) fun xs H Q h => ?_
  obtain ⟨O, ps, P, tr, hx, h, k⟩ := h
  unfold rAllP at h
  split at h
  · obtain ⟨bs, e, h⟩ := h
    obtain ⟨v, rfl, r⟩ := hx.one
    obtain ⟨a, vs, rfl, n, q, rr⟩ := r.lst_
    have := blsOf_rep e rr
    subst this
    exact ⟨a, bs, rfl, SqL.of q, k.bl h⟩
  · cases h
def rTuple : R1p := fun ps P => match ps with
  | [.lst xs] => P (.tup xs)
  | [.tup xs] => P (.tup xs)
  | _ => False
theorem zc_tuple : CallR X (.type "tuple") (r1 X.K rTuple) := by
  refine CallR.weak (call_tuple_of (X := X)) fun xs H Q h => ?_
  obtain ⟨O, ps, P, tr, hx, h, k⟩ := h
  unfold rTuple at h
  split at h
  · obtain ⟨v, rfl, r⟩ := hx.one
    obtain ⟨a, vs, rfl, n, q, rr⟩ := r.lst_
    exact ⟨a, vs, rfl, .inl ⟨SqL.of q, fun l hl => k.newT h tr rr hl⟩⟩
  · obtain ⟨v, rfl, r⟩ := hx.one
    obtain ⟨a, vs, rfl, q, rr⟩ := r.tup_
    exact ⟨a, vs, rfl, .inr ⟨q.sq, k _ _ _ h (Same.refl _) r⟩⟩
  · cases h
def rList : R1p := fun ps P => match ps with
  | [.lst xs] => P (.lst xs)
  | [.tup xs] => P (.lst xs)
  | _ => False
theorem zc_list : CallR X (.type "list") (r1 X.K rList) := by
  refine CallR.weak (call_list_of (X := X)) fun xs H Q h => ?_
  obtain ⟨O, ps, P, tr, hx, h, k⟩ := h
  unfold rList at h
  split at h
  · obtain ⟨v, rfl, r⟩ := hx.one
    obtain ⟨a, vs, rfl, n, q, rr⟩ := r.lst_
    exact ⟨a, vs, rfl, .inl (SqL.of q), fun l hl => k.newL h tr rr hl⟩
  · obtain ⟨v, rfl, r⟩ := hx.one
    obtain ⟨a, vs, rfl, q, rr⟩ := r.tup_
    exact ⟨a, vs, rfl, .inr q.sq, fun l hl => k.newL h tr rr hl⟩
  · cases h
def rStr : R1p := fun ps P => match ps with
  | [.int i] => i.natAbs.log2 < 1920 ∧ P (.str (toString i))
  | _ => False
theorem zc_str : CallR X (.type "str") (r1 X.K rStr) := by
  refine CallR.weak (call_str_int (X := X)) fun xs H Q h => ?_
  obtain ⟨O, ps, P, tr, hx, h, k⟩ := h
  unfold rStr at h
  split at h
  · obtain ⟨v, rfl, r⟩ := hx.one
    cases r.int_
    exact ⟨_, rfl, h.1, k.str h.2⟩
  · cases h
/-! isinstance -/
def tyN : PV → Option String
  | .non => some "NoneType"
  | .bl _ => some "bool"
  | .int _ => some "int"
  | .str _ => some "str"
  | .tup _ => some "tuple"
  | .lst _ => some "list"
  | .scr _ => some "list"
  | .dic0 => some "dict"
  | .ins _ _ => none
  | .raw _ => none
/-- a class of one's own, as isinstance asks it -/
structure ClsT (K : PySem.W.Frag) (C : Addr) : Prop where
  cl : Cls K C
  ha : PySem.W.findIn K (.ref C) "__class__" = some (some (.builtin "object.__class__"))
  hn : PySem.W.specialIn K (.builtin "object.__class__") "__get__" = some (some (.builtin "getset_descriptor.__get__"))
  htk : PySem.W.takesIn K (.builtin "object.__class__") = some true
  hm : PySem.W.mroIn K C (.type "object") = some true
  own : PySem.W.kitOne K (.ref C) (.ref C) = some true
  ty : ∀ n : String, n ∈ ["int", "bool", "str", "tuple", "list", "dict"] → PySem.W.kitOne K (.ref C) (.type n) = some false
  no : ∀ n : String, n ∈ ["NoneType", "int", "bool", "str", "tuple", "list", "dict"] → PySem.W.kitOne K (.type n) (.ref C) = some false
def rIsI (K : PySem.W.Frag) : R1p := fun ps P => match ps with
  | [x, .raw (.ty n)] => (match tyN x with
    | some t => ∃ b, kitB t n = some b ∧ P (.bl b)
    | none => match x with
      | .ins C _ => ClsT K C ∧ n ∈ ["int", "bool", "str", "tuple", "list", "dict"] ∧ P (.bl false)
      | _ => False)
  | [x, .raw (.ref C)] => (match tyN x with
    | some t => ClsT K C ∧ t ∈ ["NoneType", "int", "bool", "str", "tuple", "list", "dict"] ∧ P (.bl false)
    | none => match x with
      | .ins C' _ => C' = C ∧ ClsT K C ∧ P (.bl true)
      | _ => False)
  | _ => False
theorem tyN_rep {K : PySem.W.Frag} {O H} {x : PV} {v : V} {t : String} (h : Rep K O H x v) (e : tyN x = some t) : TyX K H v (.type t) := by
  cases x <;> unfold tyN at e <;> cases e
  · rw [h.non_]; exact .base .non
  · rw [h.bl_]; exact .base (.bl _)
  · rw [h.int_]; exact .base (.int _)
  · rw [h.str_]; exact .base (.str _)
  · obtain ⟨a, vs, rfl, q, rr⟩ := h.tup_
    rcases q with ⟨_, q | ⟨o, q⟩⟩ | ⟨o, its, n, q1, q2, _⟩
    · exact .base (.tup q)
    · exact .fTuple q
    · exact .kTuple q1 q2
  · obtain ⟨a, vs, rfl, n, q, rr⟩ := h.lst_; exact .base (.lst q)
  · obtain ⟨a, o, rfl, n, q⟩ := h.scr_; exact .base (.frz q)
  · unfold Rep at h; obtain ⟨a, rfl, n, q⟩ := h; exact .base (.dK q)
theorem zc_isi : CallR X (.builtin "isinstance") (r1 X.K (rIsI X.K)) := by
  refine CallR.weak (call_isi (X := X)) fun xs H Q h => ?_
  obtain ⟨O, ps, P, tr, hx, h, k⟩ := h
  unfold rIsI at h
  split at h
  · obtain ⟨v, w, rfl, r, r'⟩ := hx.two
    cases r'.raw_
    split at h
    · rename_i t et
      obtain ⟨b, hb, h⟩ := h
      exact ⟨_, _, _, _, b, rfl, .ty _, tyN_rep r et, kit_ty hb, k.bl h⟩
    · split at h
      · obtain ⟨a, dx, ws, rfl, n, q, rr⟩ := r.ins_
        obtain ⟨T, hn, h⟩ := h
        exact ⟨_, _, _, _, false, rfl, .ty _, .base (.ins q T.cl T.ha T.hn T.htk T.hm), T.ty _ hn, k.bl h⟩
      · cases h
  · obtain ⟨v, w, rfl, r, r'⟩ := hx.two
    cases r'.raw_
    split at h
    · rename_i t et
      obtain ⟨T, hn, h⟩ := h
      exact ⟨_, _, _, _, false, rfl, .own _, tyN_rep r et, T.no _ hn, k.bl h⟩
    · split at h
      · obtain ⟨rfl, T, h⟩ := h
        obtain ⟨a, dx, ws, rfl, n, q, rr⟩ := r.ins_
        exact ⟨_, _, _, _, true, rfl, .own _, .base (.ins q T.cl T.ha T.hn T.htk T.hm), T.own, k.bl h⟩
      · cases h
  · cases h
end
end Z
set_option Elab.async false
set_option linter.all false
set_option maxRecDepth 100000
namespace Z
open PySem PySem.Spec L2
open PyProof.Rows hiding St
section
variable {X : Cx}
/-- repr of data -/
theorem call_reprD (hg : X.A.guards = some []) (hu : X.A.units + 64 < cLine) : CallR X (.builtin "repr") (fun xs H Q => ∃ v d, xs = [v] ∧ Dp X.K H v d ∧ d.showable = true ∧ d.hasDict = false ∧ d.depth ≤ 60 ∧ d.shown.length ≤ sizeLine ∧ Q (.str d.shown) H) := by
  intro pins s σ H xs us Q I r h
  obtain ⟨v, d, rfl, hd, hs, hn, hdep, hz, q⟩ := h
  obtain ⟨u, rfl, ru⟩ := vals1 r
  obtain ⟨as, rd⟩ := Dp.reads I d v u hd ru
  have fin : ∀ h' tk tk', (∀ b o, s.heap.get? b = some o → h'.get? b = some o) → EP X pins σ Q (.str d.shown tk) { s with heap := h', toks := tk' } := fun h' tk tk' k => ⟨.str d.shown, H, I.kept k, ⟨_, rfl⟩, q⟩
  cases rd with
  | none => exact PySem.P.repr_of_none (fin s.heap _ _ fun _ _ e => e)
  | bool b => exact PySem.P.repr_of_bool (fin s.heap _ _ fun _ _ e => e)
  | int i t => exact PySem.P.repr_of_int (of_decide_eq_true hs) (fin s.heap _ _ fun _ _ e => e)
  | str x t => exact PySem.P.repr_of_str (fin s.heap _ _ fun _ _ e => e) hz
  | list h1 h2 h3 h4 => exact repr_of_reads' (Reads.list h1 h2 h3 h4) hs (PyData.noDict_hsm hn) hg (by omega) (fun _ _ e => e) (fun h' u tk k => fin h' _ _ k) hz
  | tuple h1 h2 h3 h4 => exact repr_of_reads' (Reads.tuple h1 h2 h3 h4) hs (PyData.noDict_hsm hn) hg (by omega) (fun _ _ e => e) (fun h' u tk k => fin h' _ _ k) hz
  | dict h1 h2 h3 h4 h5 => cases hd
def rRepr : R1p := fun ps P => match ps with
  | [x] => ∃ d, toD x = some d ∧ d.showable = true ∧ d.hasDict = false ∧ d.depth ≤ 60 ∧ d.shown.length ≤ sizeLine ∧ P (.str d.shown)
  | _ => False
theorem zc_repr (hg : X.A.guards = some []) (hu : X.A.units + 64 < cLine) : CallR X (.builtin "repr") (r1 X.K rRepr) := by
  refine CallR.weak (call_reprD hg hu) fun xs H Q h => ?_
  obtain ⟨O, ps, P, tr, hx, h, k⟩ := h
  unfold rRepr at h
  split at h
  · obtain ⟨d, h1, h2, h3, h4, h5, h⟩ := h
    obtain ⟨v, rfl, r⟩ := hx.one
    exact ⟨v, d, rfl, Rep.dp _ _ _ r h1, h2, h3, h4, h5, k.str h⟩
  · cases h
/-! ### sorted -/
def encD (x : PV) : PyData := (toD x).getD .none
theorem toDs_map : ∀ {xs : List PV} {ds : List PyData}, toDs xs = some ds → ds = xs.map encD
  | [], _, e => by unfold toDs at e; cases e; rfl
  | x :: xs, _, e => by
    obtain ⟨d, r, rfl, h1, h2⟩ := toDs_cons e
    rw [List.map_cons, ← toDs_map h2]
    unfold encD; rw [h1]; rfl
def ValR (K : PySem.W.Frag) (O : Addr → Prop) (H : Hp) (u : Value) (x : PV) : Prop := ∃ v, RelV v u ∧ Rep K O H x v
theorem each_val {K : PySem.W.Frag} {O H} : ∀ {xs : List PV} {vs : List V} {us : List Value}, Reps K O H xs vs → Vals vs us → PySem.W.EachIs (ValR K O H) us xs
  | [], _, _, h, r => by cases h.inv0; cases r; exact .nil
  | x :: xs, _, _, h, r => by
    obtain ⟨v, us, rfl, r1, t⟩ := h.inv
    cases r with
    | cons r2 t2 => exact .cons ⟨v, r2, r1⟩ (each_val t t2)
theorem val_each {K : PySem.W.Frag} {O H} : ∀ {xs : List PV} {us : List Value}, PySem.W.EachIs (ValR K O H) us xs → ∃ vs, Reps K O H xs vs ∧ Vals vs us
  | _, _, .nil => ⟨[], .nil, .nil⟩
  | _, _, .cons ⟨v, h1, h2⟩ t => by
    obtain ⟨vs, q1, q2⟩ := val_each t
    exact ⟨v :: vs, .cons h2 q1, .cons h1 q2⟩
theorem each_reads {K : PySem.W.Frag} {O H} {pins s σ} (I : Inv X pins σ H s) (hK : K = X.K) : ∀ {xs : List PV} {vs : List V} {us : List Value} {ds : List PyData}, Reps K O H xs vs → Vals vs us → toDs xs = some ds → PySem.W.EachIs (fun u x => ∃ as, Reads s.heap u (encD x) as) us xs
  | [], _, _, _, h, r, e => by cases h.inv0; cases r; exact .nil
  | x :: xs, _, _, _, h, r, e => by
    subst hK
    obtain ⟨v, us, rfl, r1, t⟩ := h.inv
    obtain ⟨d, ds, rfl, h1, h2⟩ := toDs_cons e
    cases r with
    | cons r2 t2 =>
      refine .cons ?_ (each_reads I rfl t t2 h2)
      have e' : encD x = d := by unfold encD; rw [h1]; rfl
      rw [e']
      exact Dp.reads I d v _ (Rep.dp _ _ _ r1 h1) r2
def rSortD : R1p := fun ps P => match ps with
  | [.lst xs] => ∃ ds, toDs xs = some ds ∧ PySem.W.AllAlike ds ∧ PySem.W.Sortable ds ∧ (∀ x ∈ xs, (encD x).depth ≤ 50) ∧ xs.length ≤ sizeLine ∧ P (.lst (xs.mergeSort (PySem.W.dataLe false encD)))
  | [.tup xs] => False
  | _ => False
theorem zc_sorted (hu : X.A.units + 64 < cLine) : CallR X (.builtin "sorted") (r1 X.K rSortD) := by
  intro pins s σ H vs us Q I r h
  obtain ⟨O, ps, P, tr, hx, h, k⟩ := h
  unfold rSortD at h
  split at h
  · rename_i xs
    obtain ⟨ds, e, hal, hso, hdp, hz, h⟩ := h
    obtain ⟨v, rfl, rv⟩ := hx.one
    obtain ⟨a, ws, rfl, na, q, rr⟩ := rv.lst_
    obtain ⟨u, rfl, ru⟩ := vals1 r
    cases ru
    obtain ⟨its, rits, hl, hzz⟩ := I.list (SqL.of q)
    have em := toDs_map e
    rw [em] at hal hso
    refine PySem.W.sorted_data (R := ValR X.K O H) (enc := encD) hl.isList (each_val rr rits) (each_reads I rfl rr rits e) hal hso hz (fun b hb => by have := hdp b hb; omega) fun out ho eo => ?_
    obtain ⟨ys, r3, r4⟩ := val_each eo
    obtain ⟨c, hc⟩ := sortedAll_at s.heap its out.toArray
    have fr : H (s.heap.objs.size + 1) = none := I.hok.fresh (Nat.le_succ _)
    refine ⟨.ref (s.heap.objs.size + 1), upd H (s.heap.objs.size + 1) (.lst ys), I.laid (t' := s.toks) (fun b o e => sortedAll_old e) (Nat.le_succ _) ⟨?_, out, c, r4, hc⟩, rfl, k.newL h tr r3 fr⟩
    rw [r3.len, List.length_mergeSort]; exact hz
  · cases h
  · cases h
end
end Z
set_option Elab.async false
set_option linter.all false
set_option maxRecDepth 100000
namespace Z
open PySem PySem.Spec L2
open PyProof.Rows hiding St
/-! ### growth -/
structure Gr (H H' : Hp) : Prop where
  keep : ∀ b o, H b = some o → (∀ ps, o ≠ .tbl ps) → H' b = some o
  live : ∀ b, ¬ Nw H b → ¬ Nw H' b
section
variable {K : PySem.W.Frag} {T : List (Addr × Str)} {F O : Addr → Prop} {σ σ' : St} {η η' : EP'} {H H' : Hp} {i : Nat} {x : PV} {v : V} {a : Addr} {o : Ow}
theorem Gr.car (g : Gr H H') : Car O O H H' := fun a o n e t => ⟨g.keep a o e t, n⟩
theorem Gr.ext (g : Gr H H') : Ext σ η σ η H H' := ⟨fun b o e _ t => g.keep b o e t, g.live, fun _ z => .inl z, fun o e => ⟨o, e, rfl⟩⟩
theorem Gr.same (s : Same H H') : Gr H H' := ⟨fun b o e _ => s b o e, (Ext.same (σ := []) (η := []) s).live⟩
theorem Rs.gr (R : Rs K T F σ η H) (g : Gr H H') (tb : LamX.Tabs T H') : Rs K T F σ η H' := by
  have c : Car (Oof F σ η) (Oof F σ η) H H' := g.car
  refine ⟨R.len, fun i x e => ?_, fun i o e => ?_, R.nd, fun a h => g.live a (R.tr a h), tb⟩
  · obtain ⟨v, h1, h2⟩ := R.va i x e
    exact ⟨v, h1, h2.car c⟩
  · obtain ⟨a, h1, h2, h3⟩ := R.ow i o e
    refine ⟨a, h1, h2.car c ?_, h3⟩
    cases o with
    | l xs => obtain ⟨vs, q, _⟩ := h2; rw [q]; exact g.keep _ _ q nofun
    | o C fs => obtain ⟨dx, ws, q, _⟩ := h2; rw [q]; exact g.keep _ _ q nofun
theorem own_put {b : Addr} {o' : Ow} (e : η[i]? = some (Sl.ow o)) : IsOwn σ (η.set i (.ow o')) b ↔ IsOwn σ η b := by
  have hi : i < η.length := (List.getElem?_eq_some_iff.mp e).1
  constructor
  · rintro ⟨j, p, h1, h2⟩
    by_cases q : j = i
    · subst q; exact ⟨j, o, h1, e⟩
    · rw [ne_set q] at h2; exact ⟨j, p, h1, h2⟩
  · rintro ⟨j, p, h1, h2⟩
    by_cases q : j = i
    · subst q; exact ⟨j, o', h1, by rw [List.getElem?_set_self hi]⟩
    · exact ⟨j, p, h1, by rw [ne_set q]; exact h2⟩
/-- an own object at a gets new content: the heap grows but for a -/
theorem Rs.put {o' : Ow} (R : Rs K T F σ η H) (e : η[i]? = some (Sl.ow o)) (s : σ[i]? = some (some (V.ref a))) (c : Car (Oof F σ η) (Oof F σ η) H H') (oth : ∀ b, b ≠ a → IsOwn σ η b → H' b = H b) (tr : Trk F H') (tb : LamX.Tabs T H')
    (h : OwAt K (Oof F σ η) H' a o') : Rs K T F σ (η.set i (.ow o')) H' := by
  have hi : i < η.length := (List.getElem?_eq_some_iff.mp e).1
  have m : ∀ b, Oof F σ (η.set i (.ow o')) b → Oof F σ η b := Oof_mono fun b z => (own_put e).mp z
  refine ⟨by simpa using R.len, fun j y q => ?_, fun j p q => ?_, fun j k p p' b e1 e2 e3 e4 => ?_, tr, tb⟩
  · have hj : j ≠ i := fun z => by subst z; cases at_set q
    rw [ne_set hj] at q
    obtain ⟨w, h1, h2⟩ := R.va j y q
    exact ⟨w, h1, (h2.car c).mono m⟩
  · by_cases hj : j = i
    · subst hj
      cases at_set q
      obtain ⟨b, h1, h2, h3⟩ := R.ow j o e
      rw [s] at h1; cases h1
      exact ⟨a, s, h.mono m, h3⟩
    · rw [ne_set hj] at q
      obtain ⟨b, h1, h2, h3⟩ := R.ow j p q
      refine ⟨b, h1, (h2.car c (oth b ?_ ⟨j, p, h1, q⟩)).mono m, h3⟩
      rintro rfl
      exact hj (R.nd j i p o b q e h1 s)
  · have f : ∀ {j p}, (η.set i (.ow o'))[j]? = some (Sl.ow p) → ∃ p', η[j]? = some (Sl.ow p') := fun {j p} q => by
      by_cases hj : j = i
      · rw [hj]; exact ⟨o, e⟩
      · rw [ne_set hj] at q; exact ⟨p, q⟩
    obtain ⟨q1, f1⟩ := f e1
    obtain ⟨q2, f2⟩ := f e2
    exact R.nd j k q1 q2 b f1 f2 e3 e4
theorem Tabs.upd {a : Addr} {u w : HO} (t : LamX.Tabs T H) (h : H a = some w) (n1 : ∀ ps, w ≠ .tbl ps) (n2 : ∀ φ, w ≠ .ext φ) : LamX.Tabs T (upd H a u) := fun p hp => by
  obtain ⟨ps, h1, h2, h3⟩ := t p hp
  refine ⟨ps, by rw [upd_ne (fun z => n1 ps (by rw [z] at h1; exact Option.some.inj (h.symm.trans h1)))]; exact h1, h2, fun pos cv hc => ?_⟩
  obtain ⟨c, e1, e2⟩ := h3 pos cv hc
  refine ⟨c, e1, ?_⟩
  rw [upd_ne (fun z => by rw [z] at e2; exact n2 _ (Option.some.inj (h.symm.trans e2)))]
  exact e2
/-- .. written in place -/
theorem Rs.write {o' : Ow} {u w : HO} (R : Rs K T F σ η H) (e : η[i]? = some (Sl.ow o)) (s : σ[i]? = some (some (V.ref a))) (hw : H a = some w) (n1 : ∀ ps, w ≠ .tbl ps) (n2 : ∀ φ, w ≠ .ext φ) (n3 : ∀ ps, u ≠ .tbl ps)
    (h : Car (Oof F σ η) (Oof F σ η) H (upd H a u) → OwAt K (Oof F σ η) (upd H a u) a o') : Rs K T F σ (η.set i (.ow o')) (upd H a u) ∧ Ext σ η σ (η.set i (.ow o')) H (upd H a u) := by
  have own : IsOwn σ η a := ⟨i, o, s, e⟩
  have c : Car (Oof F σ η) (Oof F σ η) H (upd H a u) := fun b q n hb _ => ⟨by rw [upd_ne (fun z => n (by rw [z]; exact .inr own))]; exact hb, n⟩
  refine ⟨R.put e s c (fun b n _ => upd_ne n) (fun b hb => ?_) (Tabs.upd R.tb hw n1 n2) (h c), fun b q hb n _ => ?_, fun b hb => ?_, fun b z => .inl ((own_put e).mp z), fun p q => ?_⟩
  · exact live_upd n3 (R.tr b hb)
  · rw [upd_ne (fun z => n (by rw [z]; exact own))]; exact hb
  · exact live_upd n3 hb
  · by_cases z : (0 : Nat) = i
    · rw [z]; exact ⟨o, e, rfl⟩
    · rw [ne_set z] at q; exact ⟨p, q, rfl⟩
end
/-! ### statements -/
section
variable {X : Cx} {T : List (Addr × Str)} {e o : Expr} {es : List Expr} {te ta tb : TEp} {t : TAp} {pos : Pos} {st : Stmt} {rest : List Stmt} {t1 t2 : TSp}
def tSeqP (t u : TSp) : TSp := fun D η => t { D with nx := fun η' => u D η' } η
theorem upS_nx {K : PySem.W.Frag} {t : TSp} {F : Addr → Prop} {σ : St} {η : EP'} {H : Hp} {D : Ends} {D' : EndsP} (R : Rs K T F σ η H) (h : t D' η)
    (h1 : ∀ η' σ' H', D'.nx η' → Ext σ η σ' η' H H' → Rs K T F σ' η' H' → D.nx σ' H') (h2 : ∀ η' σ' H', D'.bk η' → Ext σ η σ' η' H H' → Rs K T F σ' η' H' → D.bk σ' H')
    (h3 : ∀ η' σ' H', D'.ct η' → Ext σ η σ' η' H H' → Rs K T F σ' η' H' → D.ct σ' H') (h4 : ∀ x η' σ' v H', D'.rt x η' → Ext σ η σ' η' H H' → Rs K T F σ' η' H' → Rep K (Oof F σ' η') H' x v → D.rt v H') : upS K T t D σ H :=
  ⟨F, η, D', R, h, h1, h2, h3, h4⟩
theorem zs_cons (h1 : PS X st (upS X.K T t1)) (h2 : PSs X rest (upS X.K T t2)) : PSs X (st :: rest) (upS X.K T (tSeqP t1 t2)) := by
  refine PSs.weak (pss_cons h1 h2) fun D σ H q => ?_
  obtain ⟨F, η, D', R, h, k1, k2, k3, k4⟩ := q
  refine ⟨F, η, _, R, h, fun η' σ' H' q e1 R1 => ?_, k2, k3, k4⟩
  exact ⟨F, η', D', R1, q, fun η'' σ'' H'' q' e2 R2 => k1 _ _ _ q' (e1.trans e2) R2, fun η'' σ'' H'' q' e2 R2 => k2 _ _ _ q' (e1.trans e2) R2, fun η'' σ'' H'' q' e2 R2 => k3 _ _ _ q' (e1.trans e2) R2, fun x η'' σ'' v H'' q' e2 R2 r => k4 _ _ _ _ _ q' (e1.trans e2) R2 r⟩
theorem zs_one (h1 : PS X st (upS X.K T t1)) : PSs X [st] (upS X.K T t1) := pss_one h1
def tNextP : TSp := fun D η => D.nx η
theorem zs_nil : PSs X [] (upS X.K T tNextP) := by
  refine PSs.weak pss_nil fun D σ H q => ?_
  obtain ⟨F, η, D', R, h, k1, k2, k3, k4⟩ := q
  exact k1 _ _ _ h .refl R
theorem z_pass : PS X (.Pass pos) (upS X.K T tNextP) := by
  refine PS.weak ps_pass fun D σ H q => ?_
  obtain ⟨F, η, D', R, h, k1, k2, k3, k4⟩ := q
  exact k1 _ _ _ h .refl R
def tBrkP : TSp := fun D η => D.bk η
def tCntP : TSp := fun D η => D.ct η
theorem z_break : PS X (.Break pos) (upS X.K T tBrkP) := by
  refine PS.weak ps_break fun D σ H q => ?_
  obtain ⟨F, η, D', R, h, k1, k2, k3, k4⟩ := q
  exact k2 _ _ _ h .refl R
theorem z_continue : PS X (.Continue pos) (upS X.K T tCntP) := by
  refine PS.weak ps_continue fun D σ H q => ?_
  obtain ⟨F, η, D', R, h, k1, k2, k3, k4⟩ := q
  exact k3 _ _ _ h .refl R
def tNevP : TSp := fun _ _ => False
theorem z_never : PS X st (upS X.K T tNevP) := PS.weak ps_never fun D σ H q => by
  obtain ⟨F, η, D', R, h, _⟩ := q
  exact h
theorem zs_never {sts : List Stmt} : PSs X sts (upS X.K T tNevP) := PSs.weak pss_never fun D σ H q => by
  obtain ⟨F, η, D', R, h, _⟩ := q
  exact h
def tDropP (te : TEp) : TSp := fun D η => te η fun _ η1 => D.nx η1
theorem z_expr (he : PE X e (up X.K T te)) (hs : swapsWith e none pos.line X.env = pure false := by rfl) : PS X (.Expr e pos) (upS X.K T (tDropP te)) := by
  refine PS.weak (ps_expr he hs) fun D σ H q => ?_
  obtain ⟨F, η, D', R, h, k1, k2, k3, k4⟩ := q
  exact ⟨F, η, _, R, h, fun x η1 v H1 h1 e1 R1 _ => k1 _ _ _ h1 e1 R1⟩
def tRetP (te : TEp) : TSp := fun D η => te η D.rt
theorem z_ret (he : PE X e (up X.K T te)) : PS X (.Return (some e) pos) (upS X.K T (tRetP te)) := by
  refine PS.weak (ps_ret he) fun D σ H q => ?_
  obtain ⟨F, η, D', R, h, k1, k2, k3, k4⟩ := q
  exact ⟨F, η, _, R, h, fun x η1 v H1 h1 e1 R1 r => k4 _ _ _ _ _ h1 e1 R1 r⟩
def tRetNP : TSp := fun D η => D.rt .non η
theorem z_retN : PS X (.Return none pos) (upS X.K T tRetNP) := by
  refine PS.weak ps_retN fun D σ H q => ?_
  obtain ⟨F, η, D', R, h, k1, k2, k3, k4⟩ := q
  exact k4 _ _ _ _ _ h .refl R rep_non
def tIfSP (c : TTp) (t u : TSp) : TSp := fun D η => c η fun b η1 => if b = true then t D η1 else u D η1
theorem z_if {c : Expr} {a b : List Stmt} {tc : TTp} (hc : PT X c (upB X.K T tc)) (ha : PSs X a (upS X.K T t1)) (hb : PSs X b (upS X.K T t2)) : PS X (.If c a b pos) (upS X.K T (tIfSP tc t1 t2)) := by
  refine PS.weak (ps_if hc ha hb) fun D σ H q => ?_
  obtain ⟨F, η, D', R, h, k1, k2, k3, k4⟩ := q
  refine ⟨F, η, _, R, h, fun x η1 H1 h1 e1 R1 => ?_⟩
  cases x with
  | true =>
    simp only [if_true] at h1 ⊢
    exact ⟨F, η1, D', R1, h1, fun η'' σ'' H'' q' e2 R2 => k1 _ _ _ q' (e1.trans e2) R2, fun η'' σ'' H'' q' e2 R2 => k2 _ _ _ q' (e1.trans e2) R2, fun η'' σ'' H'' q' e2 R2 => k3 _ _ _ q' (e1.trans e2) R2, fun x η'' σ'' v H'' q' e2 R2 r => k4 _ _ _ _ _ q' (e1.trans e2) R2 r⟩
  | false =>
    simp only [Bool.false_eq_true, if_false] at h1 ⊢
    exact ⟨F, η1, D', R1, h1, fun η'' σ'' H'' q' e2 R2 => k1 _ _ _ q' (e1.trans e2) R2, fun η'' σ'' H'' q' e2 R2 => k2 _ _ _ q' (e1.trans e2) R2, fun η'' σ'' H'' q' e2 R2 => k3 _ _ _ q' (e1.trans e2) R2, fun x η'' σ'' v H'' q' e2 R2 r => k4 _ _ _ _ _ q' (e1.trans e2) R2 r⟩
def tSetP (i : Nat) (te : TEp) : TSp := fun D η => te η fun x η1 => D.nx (η1.set i (.va x))
theorem z_set {i : Nat} {x : Str} {pos' : Pos} (hN : X.N.Nodup) (hi : X.N[i]? = some x) (hx : Loc X.env.scope x) (he : PE X e (up X.K T te)) (hs : swapsWith e (some (.Name x pos')) pos.line X.env = pure false := by rfl) (hf : X.fn x = true ∨ X.env.scope.names.lookup x = some .local := by first | exact .inl rfl | exact .inr rfl | assumption) :
    PS X (.Assign [.Name x pos'] e pos) (upS X.K T (tSetP i te)) := by
  refine PS.weak (ps_set hN hi hx he hs hf) fun D σ H q => ?_
  obtain ⟨F, η, D', R, h, k1, k2, k3, k4⟩ := q
  exact ⟨F, η, _, R, h, fun x η1 v H1 h1 e1 R1 r => k1 _ _ _ h1 (e1.trans .setv) (R1.setv r)⟩
/-! targets -/
abbrev TGp := PV → EP' → (EP' → Prop) → Prop
abbrev TGsp := List PV → EP' → (EP' → Prop) → Prop
def upG (K : PySem.W.Frag) (T : List (Addr × Str)) (g : TGp) : TG := fun v σ H Q => ∃ F η x P, Rs K T F σ η H ∧ Rep K (Oof F σ η) H x v ∧ g x η P ∧ ∀ η' σ' H', P η' → Ext σ η σ' η' H H' → Rs K T F σ' η' H' → Q σ' H'
def upGs (K : PySem.W.Frag) (T : List (Addr × Str)) (g : TGsp) : TGs := fun vs σ H Q => ∃ F η xs P, Rs K T F σ η H ∧ Reps K (Oof F σ η) H xs vs ∧ g xs η P ∧ ∀ η' σ' H', P η' → Ext σ η σ' η' H H' → Rs K T F σ' η' H' → Q σ' H'
theorem PG.weak {tg : Expr} {t t' : TG} (h : PG X tg t) (w : ∀ v σ H Q, t' v σ H Q → t v σ H Q) : PG X tg t' := by
  obtain ⟨r⟩ := h
  exact ⟨fun pins s σ H v u Q I rv q => r pins s σ H v u Q I rv (w _ _ _ _ q)⟩
theorem PGs.weak {tg : List Expr} {t t' : TGs} (h : PGs X tg t) (w : ∀ v σ H Q, t' v σ H Q → t v σ H Q) : PGs X tg t' := by
  obtain ⟨r⟩ := h
  exact ⟨fun pins s σ H v u Q I rv q => r pins s σ H v u Q I rv (w _ _ _ _ q)⟩
def gNameP (i : Nat) : TGp := fun x η P => P (η.set i (.va x))
theorem zg_name {i : Nat} {x : Str} (hN : X.N.Nodup) (hi : X.N[i]? = some x) (hx : Loc X.env.scope x) (hf : X.fn x = true ∨ X.env.scope.names.lookup x = some .local := by first | exact .inl rfl | exact .inr rfl | assumption) : PG X (.Name x pos) (upG X.K T (gNameP i)) := by
  refine PG.weak (pg_name hN hi hx hf) fun v σ H Q q => ?_
  obtain ⟨F, η, x, P, R, r, h, k⟩ := q
  exact k _ _ _ h .setv (R.setv r)
def gNilP : TGsp := fun xs η P => xs = [] ∧ P η
def gConsP (t : TGp) (u : TGsp) : TGsp := fun xs η P => match xs with
  | x :: r => t x η fun η1 => u r η1 P
  | [] => False
theorem zgs_nil : PGs X [] (upGs X.K T gNilP) := by
  refine PGs.weak pgs_nil fun v σ H Q q => ?_
  obtain ⟨F, η, x, P, R, r, h, k⟩ := q
  rw [h.1] at r
  exact ⟨r.inv0, k _ _ _ h.2 .refl R⟩
theorem zgs_cons {t : TGp} {u : TGsp} (h1 : PG X e (upG X.K T t)) (h2 : PGs X es (upGs X.K T u)) (pf : PGs X (e :: es) (gCons (upG X.K T t) (upGs X.K T u))) : PGs X (e :: es) (upGs X.K T (gConsP t u)) := by
  refine PGs.weak pf fun v σ H Q q => ?_
  obtain ⟨F, η, x, P, R, r, h, k⟩ := q
  unfold gConsP at h
  split at h
  · obtain ⟨v, us, rfl, r1, r2⟩ := r.inv
    refine ⟨v, us, rfl, F, η, _, _, R, r1, h, fun η' σ' H' h' e1 R1 => ⟨F, η', _, P, R1, r2.car e1.car, h', fun η'' σ'' H'' h'' e2 R2 => k _ _ _ h'' (e1.trans e2) R2⟩⟩
  · cases h
def gTupP (n : Nat) (t : TGsp) : TGp := fun x η P => match x with
  | .tup xs => xs.length = n ∧ t xs η P
  | _ => False
theorem zg_tup {k n : Nat} {t : TGsp} (pf : PG X (.Tuple es k pos) (gTup X.K n (upGs X.K T t))) : PG X (.Tuple es k pos) (upG X.K T (gTupP n t)) := by
  refine PG.weak pf fun v σ H Q q => ?_
  obtain ⟨F, η, x, P, R, r, h, k⟩ := q
  unfold gTupP at h
  split at h
  · obtain ⟨a, vs, rfl, t, r⟩ := r.tup_
    exact ⟨a, vs, rfl, t.sq, by rw [r.len]; exact h.1, F, η, _, P, R, r, h.2, k⟩
  · cases h
def tAsgP (te : TEp) (g : TGp) : TSp := fun D η => te η fun x η1 => g x η1 D.nx
theorem z_asg {tg : Expr} {g : TGp} (he : PE X e (up X.K T te)) (hg : PG X tg (upG X.K T g)) (hs : swapsWithSole [tg] e pos.line X.env = pure false := by rfl) (hw : swappedStores [tg] e X.env = pure none := by rfl) (h1 : (assignEach [tg] X.env).map (·.2) = [assign tg X.env] := by rfl) : PS X (.Assign [tg] e pos) (upS X.K T (tAsgP te g)) := by
  refine PS.weak (ps_asg he hg hs hw h1) fun D σ H q => ?_
  obtain ⟨F, η, D', R, h, k1, k2, k3, k4⟩ := q
  exact ⟨F, η, _, R, h, fun x η1 v H1 h1 e1 R1 r => ⟨F, η1, x, _, R1, r, h1, fun η' σ' H' h' e2 R2 => k1 _ _ _ h' (e1.trans e2) R2⟩⟩
/-- own[k] = .. -/
def gSubP (i : Nat) (ti : TEp) : TGp := fun x η P => (∃ o, η[i]? = some (Sl.ow o)) ∧ ti η fun k η1 => match η1[i]? with
  | some (.ow (.l xs)) => ∃ kk j, k = .int kk ∧ ixN xs.length kk = some j ∧ P (η1.set i (.ow (.l (xs.set j x))))
  | _ => False
theorem zg_sub {i : Nat} {ix : Expr} {ti : TEp} (ho : PE X o (tVar i)) (hi : PE X ix (up X.K T ti)) (pf : PG X (.Subscript o ix pos) (gSub (tVar i) (up X.K T ti) rSetL)) : PG X (.Subscript o ix pos) (upG X.K T (gSubP i ti)) := by
  refine PG.weak pf fun v σ H Q q => ?_
  obtain ⟨F, η, x, P, R, r, ⟨⟨oo, ho⟩, h⟩, k⟩ := q
  obtain ⟨b, hw, _, _⟩ := R.ow i _ ho
  refine ⟨_, hw, F, η, _, R, h, fun y η1 u H1 h1 e1 R1 r1 => ?_⟩
  split at h1
  · rename_i xs e
    obtain ⟨kk, j, rfl, hj, h1⟩ := h1
    obtain ⟨a, s, ⟨vs, q1, q2⟩, nf⟩ := R1.ow i _ e
    rw [hw] at s; cases s
    refine ⟨b, vs, kk, j, rfl, r1.int_, q1, by rw [q2.len]; exact hj, ?_⟩
    have rr := r.car e1.car
    obtain ⟨W, E⟩ := R1.write (o' := .l (xs.set j x)) (u := .lst (vs.set j v)) e hw q1 nofun nofun nofun fun c => ⟨_, upd_same, (q2.set j rr).car c⟩
    exact k _ _ _ h1 (e1.trans E) W
  · cases h1
end
end Z
set_option Elab.async false
set_option linter.all false
set_option maxRecDepth 100000
namespace Z
open PySem PySem.Spec L2
open PyProof.Rows hiding St
/-! ### fresh lists, own slots -/
section
variable {K : PySem.W.Frag} {T : List (Addr × Str)} {F : Addr → Prop} {σ : St} {η : EP'} {H H' : Hp} {i : Nat} {x : PV} {v : V} {a : Addr} {o : Ow}
def With (F : Addr → Prop) (a : Addr) : Addr → Prop := fun b => F b ∨ b = a
abbrev TFp := EP' → (List PV → EP' → Prop) → Prop
/-- the value is a new list at an address of its own -/
def upF (K : PySem.W.Frag) (T : List (Addr × Str)) (tp : TFp) : TE := fun σ H Q => ∃ F η P, Rs K T F σ η H ∧ tp η P ∧ ∀ xs η' a vs H', P xs η' → Ext σ η σ η' H H' → Rs K T (With F a) σ η' H' → Nw H a → ¬ F a → H' a = some (.lst vs) → Reps K (Oof (With F a) σ η') H' xs vs → Q (.ref a) H'
theorem Rs.shrink {F' : Addr → Prop} (R : Rs K T F σ η H) (h : ∀ b, F' b → F b) : Rs K T F' σ η H := by
  have m : ∀ b, Oof F' σ η b → Oof F σ η b := fun b z => z.elim (fun z => .inl (h b z)) .inr
  refine ⟨R.len, fun i x e => ?_, fun i o e => ?_, R.nd, fun a z => R.tr a (h a z), R.tb⟩
  · obtain ⟨v, h1, h2⟩ := R.va i x e
    exact ⟨v, h1, h2.mono m⟩
  · obtain ⟨a, h1, h2, h3⟩ := R.ow i o e
    exact ⟨a, h1, h2.mono m, fun z => h3 (h a z)⟩
/-- a new object at p joins the foreign ones -/
theorem Rs.add {p : Addr} {o : HO} (R : Rs K T F σ η H) (hp : H p = none) (nt : ∀ ps, o ≠ .tbl ps) : Rs K T (With F p) σ η (upd H p o) := by
  have c : Car (Oof F σ η) (Oof (With F p) σ η) H (upd H p o) := fun b q n hb _ => ⟨(Same.new hp) b q hb, fun z => by
    rcases z with (z | z) | z
    · exact n (.inl z)
    · rw [z, hp] at hb; cases hb
    · exact n (.inr z)⟩
  refine ⟨R.len, fun i x e => ?_, fun i o e => ?_, R.nd, fun a z => ?_, R.tb.ext (Same.new hp)⟩
  · obtain ⟨v, h1, h2⟩ := R.va i x e
    exact ⟨v, h1, h2.car c⟩
  · obtain ⟨a, h1, h2, h3⟩ := R.ow i o e
    have na : a ≠ p := fun z => R.trO a (.inr ⟨i, o, h1, e⟩) (Nw.of (by rw [z]; exact hp))
    refine ⟨a, h1, h2.car c (upd_ne na), fun z => z.elim h3 na⟩
  · rcases z with z | z
    · exact R.tr.same (Same.new hp) a z
    · rw [z]; exact nw_same nt
theorem car_add {p : Addr} {o : HO} (hp : H p = none) : Car (Oof F σ η) (Oof (With F p) σ η) H (upd H p o) := fun b q n hb _ => ⟨(Same.new hp) b q hb, fun z => by
    rcases z with (z | z) | z
    · exact n (.inl z)
    · rw [z, hp] at hb; cases hb
    · exact n (.inr z)⟩
/-- .. and is stored as an own one -/
theorem Rs.seto (R : Rs K T (With F a) σ η H) (nf : ¬ F a) (h : OwAt K (Oof (With F a) σ η) H a o) (hi : i < η.length) : Rs K T F (σ.set i (some (.ref a))) (η.set i (.ow o)) H := by
  have m : ∀ b, Oof F (σ.set i (some (.ref a))) (η.set i (.ow o)) b → Oof (With F a) σ η b := by
    rintro b (z | ⟨j, p, h1, h2⟩)
    · exact .inl (.inl z)
    · by_cases hj : j = i
      · subst hj
        cases at_set h1
        exact .inl (.inr rfl)
      · rw [ne_set hj] at h1 h2
        exact .inr ⟨j, p, h1, h2⟩
  have hs : i < σ.length := by rw [R.len]; exact hi
  refine ⟨by simpa using R.len, fun j y e => ?_, fun j p e => ?_, fun j k p p' b e1 e2 e3 e4 => ?_, fun b z => R.tr b (.inl z), R.tb⟩
  · have hj : j ≠ i := fun z => by subst z; cases at_set e
    rw [ne_set hj] at e ⊢
    obtain ⟨w, h1, h2⟩ := R.va j y e
    exact ⟨w, h1, h2.mono m⟩
  · by_cases hj : j = i
    · subst hj
      cases at_set e
      exact ⟨a, by rw [List.getElem?_set_self hs], h.mono m, nf⟩
    · rw [ne_set hj] at e ⊢
      obtain ⟨b, h1, h2, h3⟩ := R.ow j p e
      exact ⟨b, h1, h2.mono m, fun z => h3 (.inl z)⟩
  · by_cases hj : j = i
    · by_cases hk : k = i
      · exact hj.trans hk.symm
      · exfalso
        subst hj
        cases at_set e3
        rw [ne_set hk] at e2 e4
        obtain ⟨b, h1, h2, h3⟩ := R.ow k _ e2
        rw [e4] at h1; cases h1
        exact h3 (.inr rfl)
    · by_cases hk : k = i
      · exfalso
        subst hk
        cases at_set e4
        rw [ne_set hj] at e1 e3
        obtain ⟨b, h1, h2, h3⟩ := R.ow j _ e1
        rw [e3] at h1; cases h1
        exact h3 (.inr rfl)
      · rw [ne_set hj] at e1 e3
        rw [ne_set hk] at e2 e4
        exact R.nd j k _ _ b e1 e2 e3 e4
theorem Ext.seto {σ0 : St} {η0 : EP'} {H0 : Hp} (e : Ext σ0 η0 σ η H0 H) (hn : Nw H0 a) (h0 : (0 : Nat) ≠ i) : Ext σ0 η0 (σ.set i (some (.ref a))) (η.set i (.ow o)) H0 H := by
  refine ⟨e.keep, e.live, fun b z => ?_, fun p q => ?_⟩
  rotate_left
  · rw [ne_set h0] at q ⊢
    exact e.fst p q
  obtain ⟨j, p, h1, h2⟩ := z
  by_cases hj : j = i
  · subst hj
    cases at_set h1
    exact .inr hn
  · rw [ne_set hj] at h1 h2
    exact e.new b ⟨j, p, h1, h2⟩
end
section
variable {X : Cx} {T : List (Addr × Str)} {e o : Expr} {es : List Expr} {te ta tb : TEp} {t : TAp} {tf : TFp} {pos : Pos}
/-- a fresh list as a value -/
def tValP (tf : TFp) : TEp := fun η P => tf η fun xs η1 => P (.lst xs) η1
theorem z_val (h : PE X e (upF X.K T tf)) : PE X e (up X.K T (tValP tf)) := by
  refine PE.weak h fun σ H Q q => ?_
  obtain ⟨F, η, P, R, h, k⟩ := q
  refine ⟨F, η, _, R, h, fun xs η' a vs H' h1 e1 R1 hn nf hv r => ?_⟩
  refine k _ _ _ _ h1 e1 (R1.shrink fun b z => .inl z) ?_
  unfold Rep
  refine ⟨a, vs, rfl, fun z => ?_, hv, r.mono fun b z => z.elim (fun z => .inl (.inl z)) .inr⟩
  rcases z with z | ⟨j, p, h1, h2⟩
  · exact nf z
  · obtain ⟨b, q1, q2, q3⟩ := R1.ow j p h2
    rw [h1] at q1; cases q1
    exact q3 (.inr rfl)
def tLstFP (t : TAp) : TFp := fun η P => t η fun xs η1 => xs.length ≤ sizeLine ∧ P xs η1
theorem zf_lst (h : PA X es (upA X.K T t)) : PE X (.List es pos) (upF X.K T (tLstFP t)) := by
  refine PE.weak (pe_lst h) fun σ H Q q => ?_
  obtain ⟨F, η, P, R, h, k⟩ := q
  refine ⟨F, η, _, R, h, fun xs η1 vs H1 h1 e1 R1 r1' => ⟨by rw [r1'.len]; exact h1.1, fun p hp => ?_⟩⟩
  have hn : Nw H p := e1.nw (Nw.of hp)
  exact k xs η1 p vs _ h1.2 (e1.trans (.same (Same.new hp))) (R1.add hp nofun) hn (fun z => R.tr p z hn) upd_same (r1'.car (car_add hp))
def tSetFP (i : Nat) (tf : TFp) : TSp := fun D η => (0 : Nat) ≠ i ∧ tf η fun xs η1 => i < η1.length ∧ D.nx (η1.set i (.ow (.l xs)))
theorem z_setF {i : Nat} {x : Str} {pos' : Pos} (hN : X.N.Nodup) (hi : X.N[i]? = some x) (hx : Loc X.env.scope x) (he : PE X e (upF X.K T tf)) (hs : swapsWith e (some (.Name x pos')) pos.line X.env = pure false := by rfl) (hf : X.fn x = true ∨ X.env.scope.names.lookup x = some .local := by first | exact .inl rfl | exact .inr rfl | assumption) :
    PS X (.Assign [.Name x pos'] e pos) (upS X.K T (tSetFP i tf)) := by
  refine PS.weak (ps_set hN hi hx he hs hf) fun D σ H q => ?_
  obtain ⟨F, η, D', R, ⟨hi, h⟩, k1, k2, k3, k4⟩ := q
  refine ⟨F, η, _, R, h, fun xs η1 a vs H1 h1 e1 R1 hn nf hv r => ?_⟩
  exact k1 _ _ _ h1.2 (e1.seto hn hi) (R1.seto nf ⟨vs, hv, r⟩ h1.1)
/-- own.append(e) -/
def tAppP (i : Nat) (te : TEp) : TSp := fun D η => (∃ xs, η[i]? = some (Sl.ow (.l xs))) ∧ te η fun x η1 => match η1[i]? with
  | some (.ow (.l xs)) => xs.length < sizeLine ∧ D.nx (η1.set i (.ow (.l (xs ++ [x]))))
  | _ => False
theorem z_app {i : Nat} {K0 : PySem.W.Frag} (hK : X.K = K0) (pf : PS X (.Expr o pos) (tDrop (tBM K0 "list" rAppend (tVar i) (tCons (up K0 T te) tNil)))) : PS X (.Expr o pos) (upS K0 T (tAppP i te)) := by
  subst hK
  refine PS.weak pf fun D σ H q => ?_
  obtain ⟨F, η, D', R, ⟨⟨oo, ho⟩, h⟩, k1, k2, k3, k4⟩ := q
  obtain ⟨b, hw, q0, _⟩ := R.ow i _ ho
  refine ⟨_, hw, ?_, F, η, _, R, h, fun y η1 u H1 h1 e1 R1 r1 => ?_⟩
  · obtain ⟨vs, q1, q2⟩ := q0; exact .inl ⟨rfl, vs, SqL.of q1⟩
  · split at h1
    · rename_i xs e
      obtain ⟨a, s, ⟨vs, q1, q2⟩, nf⟩ := R1.ow i _ e
      rw [hw] at s; cases s
      refine ⟨b, vs, u, rfl, rfl, q1, by rw [q2.len]; exact h1.1, ?_⟩
      obtain ⟨W, E⟩ := R1.write (o' := .l (xs ++ [y])) (u := .lst (vs ++ [u])) e hw q1 nofun nofun nofun fun c => ⟨_, upd_same, (q2.app (.cons r1 .nil)).car c⟩
      exact k1 _ _ _ h1.2 (e1.trans E) W
    · cases h1
end
end Z
set_option Elab.async false
set_option linter.all false
set_option maxRecDepth 100000
namespace Z
open PySem PySem.Spec L2
open PyProof.Rows hiding St
section
variable {X : Cx} {T : List (Addr × Str)} {a b e o : Expr} {es : List Expr} {te ta tb : TEp} {t : TAp} {tf : TFp} {pos : Pos}
/-! ### text times number -/
def strRep (x : Str) (n : Nat) : Str := ⟨((List.replicate n x.cps.toList).flatten).toArray⟩
theorem fold_app (c : Array Nat) : ∀ (n : Nat) (acc : Array Nat), (List.replicate n c).foldl (· ++ ·) acc = acc ++ ((List.replicate n c.toList).flatten).toArray
  | 0, acc => by simp
  | n + 1, acc => by
    rw [List.replicate_succ, List.foldl_cons, fold_app c n, List.replicate_succ, List.flatten_cons]
    apply Array.toList_inj.mp
    simp
theorem strRep_len (x : Str) (n : Nat) : (strRep x n).length = n * x.length := by
  show ((List.replicate n x.cps.toList).flatten).toArray.size = _
  rw [List.size_toArray, PyProof.Rows.lm_len_rep_flat]
  simp [Str.length]
def rMulS : R2p := fun x y P => match x, y with
  | .str z, .int n => 1 ≤ n ∧ n ≤ 1000 ∧ z.length ≤ 1000 ∧ P (.str (strRep z n.toNat))
  | _, _ => False
theorem zo_mulS : OpR X (binaryOp .Mult) (r2 X.K rMulS) := by
  intro pins s σ H x y v u Q I rx ry h
  obtain ⟨O, px, py, P, tr, hx, hy, h, k⟩ := h
  unfold rMulS at h
  split at h
  · rename_i z n
    obtain ⟨h1, h2, h3, h⟩ := h
    cases hx.str_
    cases hy.int_
    obtain ⟨t, rfl⟩ := rx
    obtain ⟨t', rfl⟩ := ry
    have hn : ¬ n < 1 := by omega
    have hz : z.length * n.toNat ≤ 1000000 := by
      have := Nat.mul_le_mul h3 (show n.toNat ≤ 1000 by omega)
      omega
    refine PySem.P.mul_str (by rw [decide_eq_false (by omega), decide_eq_false (by omega)]; rfl) (fun _ _ => ?_) (fun _ _ => ?_) ?_
    · have q : (1000 : Int) ≤ (2 ^ 63 - 1) / n := by
        apply Int.le_ediv_of_mul_le (by omega)
        omega
      omega
    · exact decide_eq_false (by rw [sizeLine_eq]; omega)
    · rw [if_neg hn]
      split
      · rename_i hc
        have e : strRep z n.toNat = z := by
          rw [Bool.or_eq_true] at hc
          rcases hc with hc | hc
          · have : n = 1 := by simpa using hc
            subst this
            show (⟨((List.replicate 1 z.cps.toList).flatten).toArray⟩ : Str) = z
            simp
          · have h0 : z.length = 0 := by simpa using hc
            have : z.cps = #[] := by simpa [Str.length] using h0
            show (⟨((List.replicate _ z.cps.toList).flatten).toArray⟩ : Str) = z
            obtain ⟨c⟩ := z
            simp at this
            subst this
            simp
        exact ⟨.str z, H, I, ⟨_, rfl⟩, k.str (by rw [e] at h; exact h)⟩
      · have e : (⟨(List.replicate n.toNat z.cps).foldl (· ++ ·) #[]⟩ : Str) = strRep z n.toNat := by
          unfold strRep
          rw [fold_app]
          simp
        rw [e]
        refine ⟨?_, .str _, H, I.tok _, ⟨_, rfl⟩, k.str h⟩
        rw [strRep_len, sizeLine_eq, Nat.mul_comm]; omega
  · cases h
/-! ### subscripts -/
def rIxP : R2p := fun x y P => match x, y with
  | .lst xs, .int i => ∃ v, atI xs i = some v ∧ P v
  | .tup xs, .int i => ∃ v, atI xs i = some v ∧ P v
  | .scr ns, .int i => ∃ v, atI ns i = some v ∧ P (.int v)
  | .str z, .int i => z.length ≤ sizeLine ∧ ∃ c, atI z.cps.toList i = some c ∧ P (.str ⟨#[c]⟩)
  | _, _ => False
theorem atI_reps {K : PySem.W.Frag} {O H} {xs : List PV} {vs : List V} {i : Int} {x : PV} (h : Reps K O H xs vs) (e : atI xs i = some x) : ∃ v, atI vs i = some v ∧ Rep K O H x v := by
  unfold atI at e ⊢
  rw [h.len]
  cases q : ixN xs.length i with
  | none => rw [q] at e; cases e
  | some j =>
    rw [q] at e
    obtain ⟨v, h1, h2⟩ := h.get (i := j) (x := x) e
    exact ⟨v, h1, h2⟩
theorem IxR.weak {r r' : R2} (h : IxR X r) (w : ∀ x y H Q, r' x y H Q → r x y H Q) : IxR X r' := fun value slice pins s σ H x y v u Q I rx ry q hs => h value slice pins s σ H x y v u Q I rx ry (w _ _ _ _ q) hs
theorem zx_ix : IxR X (r2 X.K rIxP) := by
  refine IxR.weak (ix_seq (X := X)) fun x y H Q h => ?_
  obtain ⟨O, px, py, P, tr, hx, hy, h, k⟩ := h
  unfold rIxP at h
  split at h
  · obtain ⟨w, e, h⟩ := h
    obtain ⟨a, vs, rfl, n, q, rr⟩ := hx.lst_
    obtain ⟨v, e1, r1⟩ := atI_reps rr e
    exact .inl ⟨a, vs, _, v, rfl, hy.int_, SqL.of q, e1, k _ _ _ h (Same.refl _) r1⟩
  · obtain ⟨w, e, h⟩ := h
    obtain ⟨a, vs, rfl, q, rr⟩ := hx.tup_
    obtain ⟨v, e1, r1⟩ := atI_reps rr e
    exact .inr (.inl ⟨a, vs, _, v, rfl, hy.int_, q.sq, e1, k _ _ _ h (Same.refl _) r1⟩)
  · obtain ⟨w, e, h⟩ := h
    obtain ⟨a, o, rfl, n, q⟩ := hx.scr_
    refine .inl ⟨a, _, _, .int w, rfl, hy.int_, .inl (.inr ⟨o, q⟩), ?_, k.int h⟩
    unfold atI at e ⊢
    rw [List.length_map]
    cases q : ixN _ _ with
    | none => rw [q] at e; cases e
    | some j =>
      rw [q] at e
      show (List.map V.int _)[j]? = _
      rw [List.getElem?_map, show _[j]? = some w from e]; rfl
  · obtain ⟨hz, c, e, h⟩ := h
    cases hx.str_
    exact .inr (.inr ⟨_, _, c, rfl, hy.int_, hz, e, k.str h⟩)
  · cases h
theorem z_ix (ha : PE X a (up X.K T ta)) (hb : PE X b (up X.K T tb)) (hs : PlainIx b := by exact fun _ _ => rfl) : PE X (.Subscript a b pos) (up X.K T (tOpP rIxP ta tb)) := by
  refine PE.weak (pe_ix zx_ix ha hb hs) fun σ H Q q => ?_
  obtain ⟨F, η, P, R, h, k⟩ := q
  refine ⟨F, η, _, R, h, fun x η1 v H1 h1 e1 R1 r1' => ⟨F, η1, _, R1, h1, fun y η2 w H2 h2 e2 R2' rw' => ?_⟩⟩
  exact ⟨Oof F σ η2, x, y, _, R2'.trO, r1'.car e2.car, rw', h2, fun z u H3 pz s rz => k z η2 u H3 pz ((e1.trans e2).trans (.same s)) (R2'.same s) rz⟩
/-- own[k] -/
def tIxOP (i : Nat) (ti : TEp) : TEp := fun η P => (∃ o, η[i]? = some (Sl.ow o)) ∧ ti η fun k η1 => match η1[i]? with
  | some (.ow (.l xs)) => ∃ kk v, k = .int kk ∧ atI xs kk = some v ∧ P v η1
  | _ => False
theorem z_ixO {i : Nat} (ho : PE X o (tVar i)) (hb : PE X b (up X.K T tb)) (hs : PlainIx b := by exact fun _ _ => rfl) : PE X (.Subscript o b pos) (up X.K T (tIxOP i tb)) := by
  refine PE.weak (pe_ix ix_list ho hb hs) fun σ H Q q => ?_
  obtain ⟨F, η, P, R, ⟨⟨oo, ho⟩, h⟩, k⟩ := q
  obtain ⟨b, hw, q0, _⟩ := R.ow i _ ho
  refine ⟨_, hw, F, η, _, R, h, fun y η1 u H1 h1 e1 R1 r1 => ?_⟩
  split at h1
  · rename_i xs e
    obtain ⟨kk, v, rfl, hv, h1⟩ := h1
    obtain ⟨a, s, ⟨vs, q1, q2⟩, nf⟩ := R1.ow i _ e
    rw [hw] at s; cases s
    obtain ⟨w, e1', r1'⟩ := atI_reps q2 hv
    exact ⟨b, vs, kk, w, rfl, r1.int_, SqL.of q1, e1', k _ _ _ _ h1 e1 R1 r1'⟩
  · cases h1
/-! slices -/
abbrev TOp := EP' → (Option Int → EP' → Prop) → Prop
def upO (K : PySem.W.Frag) (T : List (Addr × Str)) (tp : TOp) : TO := fun σ H Q => ∃ F η P, Rs K T F σ η H ∧ tp η P ∧ ∀ x η' H', P x η' → Ext σ η σ η' H H' → Rs K T F σ η' H' → Q x H'
def tNoPartP : TOp := fun η P => P none η
def tPartP (t : TEp) : TOp := fun η P => t η fun x η1 => match x with
  | .int i => P (some i) η1
  | _ => False
theorem PO.weak {e : Option Expr} {t t' : TO} (h : PO X e t) (w : ∀ σ H Q, t' σ H Q → t σ H Q) : PO X e t' := ⟨fun pins s σ H Q I q => h.run pins s σ H Q I (w _ _ _ q)⟩
theorem zp_none : PO X none (upO X.K T tNoPartP) := PO.weak po_none fun σ H Q q => by
  obtain ⟨F, η, P, R, h, k⟩ := q
  exact k _ _ _ h .refl R
theorem zp_some (h : PE X e (up X.K T te)) : PO X (some e) (upO X.K T (tPartP te)) := PO.weak (po_some h) fun σ H Q q => by
  obtain ⟨F, η, P, R, h, k⟩ := q
  refine ⟨F, η, _, R, h, fun x η1 v H1 h1 e1 R1 r => ?_⟩
  split at h1
  · exact ⟨_, r.int_, k _ _ _ h1 e1 R1⟩
  · cases h1
def cutP {α : Type} (xs : List α) (lo hi : Option Int) : List α := (xs.drop (HT.sIx xs.length 0 lo)).take (HT.sIx xs.length xs.length hi - HT.sIx xs.length 0 lo)
theorem cut_reps {K : PySem.W.Frag} {O H} {xs : List PV} {vs : List V} {lo hi} (h : Reps K O H xs vs) : Reps K O H (cutP xs lo hi) (cutV vs lo hi) := by
  unfold cutP cutV
  rw [h.len]
  exact (h.drop _).take _
def rSlP : PV → Option Int → Option Int → (PV → Prop) → Prop := fun x lo hi P => match x with
  | .lst xs => P (.lst (cutP xs lo hi))
  | .scr ns => P (.lst ((cutP ns lo hi).map .int))
  | .str z => z.length ≤ sizeLine ∧ P (.str (cutS z lo hi))
  | .tup xs => ¬ (HT.sIx xs.length 0 lo = 0 ∧ HT.sIx xs.length xs.length hi = xs.length) ∧ P (.tup (cutP xs lo hi))
  | _ => False
theorem SlR.weak {r r' : V → Option Int → Option Int → Hp → VK → Prop} (h : SlR X r) (w : ∀ x lo hi H Q, r' x lo hi H Q → r x lo hi H Q) : SlR X r' := fun pins s σ H x v vl vu lo hi sl Q I rx hs pl pu q => h pins s σ H x v vl vu lo hi sl Q I rx hs pl pu (w _ _ _ _ _ q)
theorem ints_reps {K : PySem.W.Frag} {O H} : ∀ ns : List Int, Reps K O H (ns.map .int) (ns.map V.int)
  | [] => .nil
  | _ :: r => .cons rep_int (ints_reps r)
theorem cut_ints (ns : List Int) (lo hi) : cutV (ns.map V.int) lo hi = (cutP ns lo hi).map V.int := by
  unfold cutP cutV
  rw [List.length_map, ← List.map_drop, ← List.map_take]
theorem zl_sl : SlR X (fun x lo hi H Q => ∃ O px P, Trk O H ∧ Rep X.K O H px x ∧ rSlP px lo hi P ∧ Out X.K O H P Q) := by
  refine SlR.weak ((sl_list (X := X)).or (sl_str.or sl_tup)) fun x lo hi H Q h => ?_
  obtain ⟨O, px, P, tr, hx, h, k⟩ := h
  unfold rSlP at h
  split at h
  · obtain ⟨a, vs, rfl, n, q, rr⟩ := hx.lst_
    exact .inl ⟨a, vs, rfl, SqL.of q, fun p hp => k.newL h tr (cut_reps rr) hp⟩
  · obtain ⟨a, o, rfl, n, q⟩ := hx.scr_
    refine .inl ⟨a, _, rfl, .inl (.inr ⟨o, q⟩), fun p hp => ?_⟩
    rw [cut_ints]
    exact k.newL h tr (ints_reps _) hp
  · cases hx.str_
    exact .inr (.inl ⟨_, rfl, h.1, k.str h.2⟩)
  · obtain ⟨a, vs, rfl, q, rr⟩ := hx.tup_
    exact .inr (.inr ⟨a, vs, rfl, q.sq, by rw [rr.len]; exact h.1, fun p hp => k.newT h.2 tr (cut_reps rr) hp⟩)
  · cases h
def tSliceP (te : TEp) (tl th : TOp) : TEp := fun η P => te η fun x η1 => tl η1 fun l η2 => th η2 fun u η3 => rSlP x l u fun z => P z η3
theorem z_slice {lo hi : Option Expr} {tl th : TOp} {p2 : Pos} (he : PE X e (up X.K T te)) (hl : PO X lo (upO X.K T tl)) (hu : PO X hi (upO X.K T th)) : PE X (.Subscript e (.Slice lo hi none p2) pos) (up X.K T (tSliceP te tl th)) := by
  refine PE.weak (pe_slice zl_sl he hl hu) fun σ H Q q => ?_
  obtain ⟨F, η, P, R, h, k⟩ := q
  refine ⟨F, η, _, R, h, fun x η1 v H1 h1 e1 R1 r1' => ⟨F, η1, _, R1, h1, fun l η2 H2 h2 e2 R2' => ⟨F, η2, _, R2', h2, fun u η3 H3 h3 e3 R3 => ?_⟩⟩⟩
  exact ⟨Oof F σ η3, x, _, R3.trO, (r1'.car e2.car).car e3.car, h3, fun z u H4 pz s rz => k z η3 u H4 pz (((e1.trans e2).trans e3).trans (.same s)) (R3.same s) rz⟩
/-! join -/
def strsOf : List PV → Option (List Str)
  | [] => some []
  | .str b :: r => (strsOf r).map (b :: ·)
  | _ => none
theorem strsOf_rep {K : PySem.W.Frag} {O H} : ∀ {xs : List PV} {bs : List Str} {vs : List V}, strsOf xs = some bs → Reps K O H xs vs → vs = bs.map V.str
  | [], _, _, e, h => by unfold strsOf at e; cases e; exact h.inv0
  | x :: xs, _, _, e, h => by
    obtain ⟨v, us, rfl, r, t⟩ := h.inv
    cases x <;> unfold strsOf at e <;> try (cases e)
    cases q : strsOf xs with
    | none => rw [q] at e; cases e
    | some r' =>
      rw [q] at e; cases e
      rw [r.str_, strsOf_rep q t]; rfl
def tJoinP (ta tb : TEp) : TEp := fun η P => ta η fun x η1 => (∃ z, x = .str z) ∧ tb η1 fun y η2 => match x, y with
  | .str z, .lst xs => ∃ ys, strsOf xs = some ys ∧ (ys.map (·.length)).sum + ys.length * z.length ≤ 16777216 ∧ P (.str (Txt.join z ys)) η2
  | _, _ => False
theorem z_join {K0 : PySem.W.Frag} (hK : X.K = K0)
    (pf : PE X e (tM1 (fun x xs H Q => ∃ a p, ∃ ys : List Str, x = .str a ∧ xs = [.ref p] ∧ (SqL K0 H p (ys.map V.str) ∨ SqT K0 H p (ys.map V.str)) ∧ (ys.map (·.length)).sum + ys.length * a.length ≤ 16777216 ∧ Q (.str (Txt.join a ys)) H) (up K0 T ta) (up K0 T tb))) : PE X e (up K0 T (tJoinP ta tb)) := by
  subst hK
  refine PE.weak pf fun σ H Q q => ?_
  obtain ⟨F, η, P, R, h, k⟩ := q
  refine ⟨F, η, _, R, h, fun x η1 v H1 h1 e1 R1 r1' => ?_⟩
  obtain ⟨⟨z, rfl⟩, h1⟩ := h1
  cases r1'.str_
  refine ⟨⟨z, rfl⟩, F, η1, _, R1, h1, fun y η2 w H2 h2 e2 R2' rw' => ?_⟩
  split at h2
  · rename_i z' xs q
    cases q
    obtain ⟨ys, e, hz, h2⟩ := h2
    obtain ⟨p, vs, rfl, n, q, rr⟩ := rw'.lst_
    have := strsOf_rep e rr
    subst this
    exact ⟨_, p, ys, rfl, rfl, .inl (SqL.of q), hz, k _ _ _ _ h2 (e1.trans e2) R2' rep_str⟩
  · cases h2
end
end Z
set_option Elab.async false
set_option linter.all false
set_option maxRecDepth 100000
namespace Z
open PySem PySem.Spec L2
open PyProof.Rows hiding St
/-! ### what is walked -/
/-- J yields what xs stands for, as long as what stood outside of O stands -/
def Itr8 (K : PySem.W.Frag) (O : Addr → Prop) (J : It) (xs : List PV) (H : Hp) : Prop :=
  ∀ O' H', Trk O' H' → Car O O' H H' → (∀ b, ¬ Nw H b → ¬ Nw H' b) → ∀ i : Nat, (∀ x, xs[i]? = some x → J.go i H' ∧ ∀ v H'', J.yld i H' v H'' → Same H' H'' ∧ Rep K O' H'' x v) ∧ (xs.length = i → J.stop i H')
abbrev TIp := EP' → (List PV → EP' → Prop) → Prop
def upI (K : PySem.W.Frag) (T : List (Addr × Str)) (tp : TIp) : TI := fun σ H R => ∃ F η P, Rs K T F σ η H ∧ tp η P ∧ ∀ xs η' J H', P xs η' → Ext σ η σ η' H H' → Rs K T F σ η' H' → Itr8 K (Oof F σ η') J xs H' → R J H'
section
variable {X : Cx} {T : List (Addr × Str)} {a b e o tg : Expr} {es : List Expr} {te ta tb : TEp} {t : TAp} {tf : TFp} {pos : Pos}
theorem PI.weak {t t' : TI} (h : PI X tg e t) (w : ∀ σ H Q, t' σ H Q → t σ H Q) : PI X tg e t' := ⟨fun pins s σ H Q I q => h.run pins s σ H Q I (w _ _ _ q)⟩
def iListP (te : TEp) : TIp := fun η P => te η fun x η1 => match x with
  | .lst xs => P xs η1
  | .scr ns => P (ns.map .int) η1
  | _ => False
def iTupP (te : TEp) : TIp := fun η P => te η fun x η1 => match x with
  | .tup xs => P xs η1
  | _ => False
def iStrP (te : TEp) : TIp := fun η P => te η fun x η1 => match x with
  | .str z => P (z.cps.toList.map fun c => .str ⟨#[c]⟩) η1
  | _ => False
def rangeP (lo : Int) (n : Nat) : List PV := (List.range n).map fun (i : Nat) => .int (lo + i)
def iRng1P (te : TEp) : TIp := fun η P => te η fun x η1 => match x with
  | .int j => -(2 ^ 62) ≤ j ∧ j < 2 ^ 62 ∧ P (rangeP 0 j.toNat) η1
  | _ => False
theorem it_list {K : PySem.W.Frag} {O H} {a : Addr} {xs : List PV} {vs : List V} (n : ¬ O a) (h : H a = some (.lst vs)) (r : Reps K O H xs vs) : Itr8 K O (Itl K a) xs H := fun O' H' tr c _ i => by
  have h' := (c a _ n h nofun).1
  have r' := r.car c
  have uniq : ∀ ys, SqL K H' a ys → ys = vs ∨ True := fun _ _ => .inr trivial
  refine ⟨fun x e => ?_, fun e => ⟨vs, SqL.of h', by rw [r'.len]; exact Nat.le_of_eq e⟩⟩
  obtain ⟨v, e1, r1⟩ := r'.get e
  refine ⟨⟨vs, v, SqL.of h', e1⟩, fun w H'' y => ?_⟩
  obtain ⟨e2, y⟩ := y
  subst e2
  have := y vs (SqL.of h')
  rw [e1] at this; cases this
  exact ⟨Same.refl _, r1⟩
theorem zi_list (h : PE X e (up X.K T te)) : PI X tg e (upI X.K T (iListP te)) := by
  refine PI.weak (pi_list h) fun σ H Q q => ?_
  obtain ⟨F, η, P, R, h, k⟩ := q
  refine ⟨F, η, _, R, h, fun x η1 v H1 h1 e1 R1 r1 => ?_⟩
  split at h1
  · obtain ⟨a, vs, rfl, n, q, rr⟩ := r1.lst_
    exact ⟨a, rfl, ⟨vs, SqL.of q⟩, k _ _ _ _ h1 e1 R1 (it_list n q rr)⟩
  · rename_i ns
    obtain ⟨a, o, rfl, n, q⟩ := r1.scr_
    refine ⟨a, rfl, ⟨_, .inl (.inr ⟨o, q⟩)⟩, k _ _ _ _ h1 e1 R1 fun O' H' tr c _ i => ?_⟩
    have h' : SqL X.K H' a (ns.map V.int) := .inl (.inr ⟨o, (c a _ n q nofun).1⟩)
    refine ⟨fun x e => ?_, fun e => ⟨_, h', by simp at e ⊢; omega⟩⟩
    have e' : (ns.map V.int)[i]? = (ns[i]?).map V.int := List.getElem?_map
    rw [List.getElem?_map] at e
    cases q : ns[i]? with
    | none => rw [q] at e; cases e
    | some j =>
      rw [q] at e e'; cases e
      refine ⟨⟨_, _, h', e'⟩, fun w H'' y => ?_⟩
      obtain ⟨e2, y⟩ := y
      subst e2
      have := y _ h'
      rw [e'] at this; cases this
      exact ⟨Same.refl _, rep_int⟩
  · cases h1
theorem TupAt.inj_car {K : PySem.W.Frag} {O O' H H'} {a : Addr} {vs : List V} (t : TupAt K O H a vs) (c : Car O O' H H') : SqT K H' a vs := (t.car c).sq
theorem zi_tup (h : PE X e (up X.K T te)) : PI X tg e (upI X.K T (iTupP te)) := by
  refine PI.weak (pi_tup h) fun σ H Q q => ?_
  obtain ⟨F, η, P, R, h, k⟩ := q
  refine ⟨F, η, _, R, h, fun x η1 v H1 h1 e1 R1 r1 => ?_⟩
  split at h1
  · obtain ⟨a, vs, rfl, q, rr⟩ := r1.tup_
    refine ⟨a, rfl, ⟨vs, q.sq⟩, k _ _ _ _ h1 e1 R1 fun O' H' tr c _ i => ?_⟩
    have h' := q.inj_car c
    have r' := rr.car c
    refine ⟨fun x e => ?_, fun e => ⟨vs, h', by rw [r'.len]; exact Nat.le_of_eq e⟩⟩
    obtain ⟨v, e1, r1⟩ := r'.get e
    refine ⟨⟨vs, v, h', e1⟩, fun w H'' y => ?_⟩
    obtain ⟨e2, y⟩ := y
    subst e2
    have := y vs h'
    rw [e1] at this; cases this
    exact ⟨Same.refl _, r1⟩
  · cases h1
theorem zi_str (h : PE X e (up X.K T te)) : PI X tg e (upI X.K T (iStrP te)) := by
  refine PI.weak (pi_str h) fun σ H Q q => ?_
  obtain ⟨F, η, P, R, h, k⟩ := q
  refine ⟨F, η, _, R, h, fun x η1 v H1 h1 e1 R1 r1 => ?_⟩
  split at h1
  · rename_i z
    cases r1.str_
    refine ⟨z, rfl, k _ _ _ _ h1 e1 R1 fun O' H' tr c _ i => ⟨fun x e => ?_, fun e => ?_⟩⟩
    · rw [List.getElem?_map] at e
      cases q : z.cps.toList[i]? with
      | none => rw [q] at e; cases e
      | some c0 =>
        rw [q] at e; cases e
        have q' : z.cps[i]? = some c0 := by rw [← Array.getElem?_toList]; exact q
        refine ⟨(Array.getElem?_eq_some_iff.mp q').1, fun w H'' y => ?_⟩
        obtain ⟨e2, c1, e3, rfl⟩ := y
        subst e2
        rw [q'] at e3; cases e3
        exact ⟨Same.refl _, rep_str⟩
    · show z.cps.size ≤ i
      simp at e; omega
  · cases h1
theorem it_range {K : PySem.W.Frag} {O H} {lo : Int} {n : Nat} : Itr8 K O (Itr lo n) (rangeP lo n) H := fun O' H' tr c _ i => by
  refine ⟨fun x e => ?_, fun e => ?_⟩
  · unfold rangeP at e
    rw [List.getElem?_map] at e
    by_cases hi : i < n
    · rw [List.getElem?_range hi] at e
      cases e
      refine ⟨hi, fun w H'' y => ?_⟩
      obtain ⟨e2, rfl⟩ := y
      subst e2
      exact ⟨Same.refl _, rep_int⟩
    · rw [List.getElem?_eq_none (by simpa using hi)] at e; cases e
  · show n ≤ i
    simp [rangeP] at e; omega
theorem zi_range1 {p : Pos} (hg : Gl X "range") (hm : X.mg "range" = none) (ha : PE X a (up X.K T te)) (hs : starEach [a] X.env = [(false, eval a X.env)] := by rfl) : PI X tg (.Call (.Name "range" p) [a] [] pos) (upI X.K T (iRng1P te)) := by
  refine PI.weak (pi_range1 hg hm (pa_cons ha pa_nil hs) hs) fun σ H Q q => ?_
  obtain ⟨F, η, P, R, h, k⟩ := q
  refine ⟨F, η, _, R, h, fun x η1 v H1 h1 e1 R1 r1 => ?_⟩
  split at h1
  · exact ⟨_, by rw [r1.int_], h1.1, h1.2.1, k _ _ _ _ h1.2.2 e1 R1 it_range⟩
  · cases h1
def iRng2P (te tb : TEp) : TIp := fun η P => te η fun x η1 => tb η1 fun y η2 => match x, y with
  | .int i, .int j => -(2 ^ 62) ≤ i ∧ i < 2 ^ 62 ∧ -(2 ^ 62) ≤ j ∧ j < 2 ^ 62 ∧ P (rangeP i (j - i).toNat) η2
  | _, _ => False
theorem zi_range2 {p : Pos} (hg : Gl X "range") (hm : X.mg "range" = none) (ha : PE X a (up X.K T ta)) (hb : PE X b (up X.K T tb)) (hs : starEach [a, b] X.env = [(false, eval a X.env), (false, eval b X.env)] := by rfl) (hs2 : starEach [b] X.env = [(false, eval b X.env)] := by rfl)
    (pf : PI X tg (.Call (.Name "range" p) [a, b] [] pos) (iRng2 (tCons (up X.K T ta) (tCons (up X.K T tb) tNil)))) : PI X tg (.Call (.Name "range" p) [a, b] [] pos) (upI X.K T (iRng2P ta tb)) := by
  refine PI.weak pf fun σ H Q q => ?_
  obtain ⟨F, η, P, R, h, k⟩ := q
  refine ⟨F, η, _, R, h, fun x η1 v H1 h1 e1 R1 r1 => ⟨F, η1, _, R1, h1, fun y η2 w H2 h2 e2 R2' r2 => ?_⟩⟩
  split at h2
  · exact ⟨_, _, by rw [(r1.car e2.car).int_, r2.int_], ⟨h2.1, h2.2.1, h2.2.2.1, h2.2.2.2.1⟩, k _ _ _ _ h2.2.2.2.2 (e1.trans e2) R2' it_range⟩
  · cases h2
/-! ### for -/
def tForP (ti : TIp) (g : TGp) (tb : TSp) : TSp := fun D η => ti η fun xs η1 => ∃ Inv : Nat → EP' → Prop, Inv 0 η1 ∧
  (∀ i x η2, xs[i]? = some x → Inv i η2 → g x η2 fun η3 => tb { D with nx := Inv (i + 1), ct := Inv (i + 1), bk := D.nx } η3) ∧ (∀ η2, Inv xs.length η2 → D.nx η2)
theorem z_for {iter : Expr} {body : List Stmt} {ti : TIp} {g : TGp} {tb : TSp} (hp : PassesOwn (model X.prog X.w) X.A X.env X.xe) (hc : X.calm = true) (hi : PI X tg iter (upI X.K T ti)) (hg : PG X tg (upG X.K T g)) (hb : PSs X body (upS X.K T tb))
    (hs : ∀ x, foldedSetIterable iter X.env x = pure x := by intro _; rfl) : PS X (.For tg iter body [] pos) (upS X.K T (tForP ti g tb)) := by
  refine PS.weak (ps_for hp hc hi hg hb hs) fun D σ H q => ?_
  obtain ⟨F, η, D', R, h, k1, k2, k3, k4⟩ := q
  refine ⟨F, η, _, R, h, fun xs η1 J H1 h1 e1 R1 hJ => ?_⟩
  obtain ⟨Inv, i0, step, fin⟩ := h1
  refine ⟨fun i m σ2 H2 => m = xs.length - i ∧ i ≤ xs.length ∧ ∃ η2, Inv i η2 ∧ Rs X.K T F σ2 η2 H2 ∧ Ext σ η1 σ2 η2 H1 H2, ⟨_, rfl, Nat.zero_le _, η1, i0, R1, .refl⟩, ?_⟩
  rintro i m σ2 H2 ⟨rfl, hi, η2, p, R2, e2⟩
  have it := hJ (Oof F σ2 η2) H2 R2.trO e2.car e2.live i
  by_cases hlt : i < xs.length
  · refine .inr ⟨(it.1 xs[i] (by simp [hlt])).1, fun σ3 H3 => ∃ η3, Inv (i + 1) η3 ∧ Rs X.K T F σ3 η3 H3 ∧ Ext σ η1 σ3 η3 H1 H3, fun σ' H' ⟨η3, p', R', e'⟩ => ⟨xs.length - (i + 1), by omega, rfl, hlt, η3, p', R', e'⟩, fun v H3 y => ?_⟩
    obtain ⟨s, rep⟩ := (it.1 xs[i] (by simp [hlt])).2 v H3 y
    refine ⟨F, η2, _, _, R2.same s, rep, step i _ η2 (by simp [hlt]) p, fun η4 σ4 H4 h4 e4 R4 => ?_⟩
    have E := (e2.trans (.same s)).trans e4
    exact ⟨F, η4, _, R4, h4, fun η5 σ5 H5 h5 e5 R5 => ⟨η5, h5, R5, E.trans e5⟩, fun η5 σ5 H5 h5 e5 R5 => k1 _ _ _ h5 ((e1.trans E).trans e5) R5, fun η5 σ5 H5 h5 e5 R5 => ⟨η5, h5, R5, E.trans e5⟩, fun x η5 σ5 v H5 h5 e5 R5 r5 => k4 _ _ _ _ _ h5 ((e1.trans E).trans e5) R5 r5⟩
  · have e : i = xs.length := by omega
    subst e
    exact .inl ⟨it.2 rfl, k1 _ _ _ (fin η2 p) (e1.trans e2) R2⟩
end
end Z
set_option Elab.async false
set_option linter.all false
set_option maxRecDepth 100000
namespace Z
open PySem PySem.Spec L2
open PyProof.Rows hiding St
def wipeP (η : EP') : List Nat → EP'
  | [] => η
  | v :: vs => (wipeP η vs).set v .no
theorem wipeP_len (η : EP') : ∀ vs : List Nat, (wipeP η vs).length = η.length
  | [] => rfl
  | v :: vs => by unfold wipeP; rw [List.length_set, wipeP_len η vs]
theorem wipeP_out {η : EP'} {i : Nat} : ∀ {vs : List Nat}, i ∉ vs → (wipeP η vs)[i]? = η[i]?
  | [], _ => rfl
  | v :: vs, h => by
    unfold wipeP
    rw [List.getElem?_set_ne (fun e => h (by simp [e])), wipeP_out fun z => h (by simp [z])]
theorem wipeP_in {η : EP'} {i : Nat} {y : Sl} : ∀ {vs : List Nat}, i ∈ vs → (wipeP η vs)[i]? = some y → y = .no
  | v :: vs, h, e => by
    unfold wipeP at e
    by_cases q : i = v
    · subst q; exact at_set e
    · rw [ne_set q] at e
      exact wipeP_in (by simpa [q] using h) e
theorem wipe_in {σ : St} {i : Nat} : ∀ {vs : List Nat}, i ∈ vs → (wipe σ vs)[i]? = if i < σ.length then some none else none
  | v :: vs, h => by
    unfold wipe
    by_cases q : i = v
    · subst q
      by_cases hi : i < σ.length
      · rw [if_pos hi, List.getElem?_set_self (by rw [wipe_length]; exact hi)]
      · rw [if_neg hi, List.getElem?_eq_none (by rw [List.length_set, wipe_length]; omega)]
    · rw [ne_set q]
      exact wipe_in (by simpa [q] using h)
theorem wipe_set {σ : St} {i : Nat} {v : Option V} {vs : List Nat} (h : i ∈ vs) : wipe (σ.set i v) vs = wipe σ vs := by
  apply List.ext_getElem?
  intro j
  by_cases hj : j ∈ vs
  · rw [wipe_in hj, wipe_in hj, List.length_set]
  · rw [wipe_out hj, wipe_out hj, ne_set fun e => hj (by rw [e]; exact h)]
theorem wipe_set_all {σ : St} {vs : List Nat} : L2.wipe (L2.wipe σ vs) vs = L2.wipe σ vs := by
  apply List.ext_getElem?
  intro j
  by_cases hj : j ∈ vs
  · rw [wipe_in hj, wipe_in hj, wipe_length]
  · rw [wipe_out hj]
theorem wipe_agree {σ σ' : St} {vs : List Nat} (h : wipe σ' vs = wipe σ vs) : σ'.length = σ.length ∧ ∀ j, j ∉ vs → σ'[j]? = σ[j]? := by
  refine ⟨by rw [← wipe_length σ' vs, h, wipe_length], fun j hj => ?_⟩
  rw [← wipe_out (σ := σ') hj, h, wipe_out hj]
section
variable {K : PySem.W.Frag} {T : List (Addr × Str)} {F : Addr → Prop} {σ σ' : St} {η : EP'} {H H' : Hp} {vs : List Nat}
theorem own_wipe (ag : ∀ j, j ∉ vs → σ'[j]? = σ[j]?) {b : Addr} (z : IsOwn σ' (wipeP η vs) b) : IsOwn σ η b := by
  obtain ⟨j, p, h1, h2⟩ := z
  by_cases hj : j ∈ vs
  · cases wipeP_in hj h2
  · rw [wipeP_out hj] at h2
    rw [ag j hj] at h1
    exact ⟨j, p, h1, h2⟩
theorem Rs.wipe (R : Rs K T F σ η H) (hl : σ'.length = σ.length) (ag : ∀ j, j ∉ vs → σ'[j]? = σ[j]?) : Rs K T F σ' (wipeP η vs) H := by
  have m : ∀ b, Oof F σ' (wipeP η vs) b → Oof F σ η b := Oof_mono fun b z => own_wipe ag z
  refine ⟨by rw [hl, R.len, wipeP_len], fun j y e => ?_, fun j o e => ?_, fun j k o o' a e1 e2 e3 e4 => ?_, R.tr, R.tb⟩
  · have hj : j ∉ vs := fun z => nomatch wipeP_in z e
    rw [wipeP_out hj] at e
    obtain ⟨w, h1, h2⟩ := R.va j y e
    exact ⟨w, (ag j hj).trans h1, h2.mono m⟩
  · have hj : j ∉ vs := fun z => nomatch wipeP_in z e
    rw [wipeP_out hj] at e
    obtain ⟨a, h1, h2, h3⟩ := R.ow j o e
    exact ⟨a, (ag j hj).trans h1, h2.mono m, h3⟩
  · have hj : j ∉ vs := fun z => nomatch wipeP_in z e1
    have hk : k ∉ vs := fun z => nomatch wipeP_in z e2
    rw [wipeP_out hj] at e1
    rw [wipeP_out hk] at e2
    rw [ag j hj] at e3
    rw [ag k hk] at e4
    exact R.nd j k o o' a e1 e2 e3 e4
theorem Ext.wipe (ag : ∀ j, j ∉ vs → σ'[j]? = σ[j]?) : Ext σ η σ' (wipeP η vs) H H := ⟨fun _ _ e _ _ => e, fun _ e => e, fun b z => .inl (own_wipe ag z), fun o e => by
  have hj : 0 ∉ vs := fun z => nomatch wipeP_in z e
  rw [wipeP_out hj] at e
  exact ⟨o, e, ag 0 hj⟩⟩
/-- a foreign list gets new content -/
theorem Rs.updF {D : Addr} {us ws : List V} (R : Rs K T F σ η H) (hF : F D) (h : H D = some (.lst us)) : Rs K T F σ η (upd H D (.lst ws)) := by
  have c : Car (Oof F σ η) (Oof F σ η) H (upd H D (.lst ws)) := fun b q n hb _ => ⟨by rw [upd_ne (fun z => n (.inl (by rw [z]; exact hF)))]; exact hb, n⟩
  refine ⟨R.len, fun i x e => ?_, fun i o e => ?_, R.nd, fun b hb => ?_, Tabs.upd R.tb h nofun nofun⟩
  · obtain ⟨v, h1, h2⟩ := R.va i x e
    exact ⟨v, h1, h2.car c⟩
  · obtain ⟨a, h1, h2, h3⟩ := R.ow i o e
    exact ⟨a, h1, h2.car c (upd_ne fun z => h3 (by rw [z]; exact hF)), h3⟩
  · exact live_upd nofun (R.tr b hb)
end
section
variable {X : Cx} {T : List (Addr × Str)} {a b e o tg elt iter : Expr} {es ifs : List Expr} {te ta tb : TEp} {t : TAp} {tf : TFp} {pos : Pos}
/-- targets of a comprehension: only the slots vs change -/
def upGw (K : PySem.W.Frag) (T : List (Addr × Str)) (vs : List Nat) (g : TGp) : TG := fun v σ H Q => ∃ F η x P, Rs K T F σ η H ∧ Rep K (Oof F σ η) H x v ∧ g x η P ∧ ∀ η' σ' H', P η' → L2.wipe σ' vs = L2.wipe σ vs → Ext σ η σ' η' H H' → Rs K T F σ' η' H' → Q σ' H'
def upGsw (K : PySem.W.Frag) (T : List (Addr × Str)) (vs : List Nat) (g : TGsp) : TGs := fun us σ H Q => ∃ F η xs P, Rs K T F σ η H ∧ Reps K (Oof F σ η) H xs us ∧ g xs η P ∧ ∀ η' σ' H', P η' → L2.wipe σ' vs = L2.wipe σ vs → Ext σ η σ' η' H H' → Rs K T F σ' η' H' → Q σ' H'
theorem zgw_name {vs : List Nat} {i : Nat} (hv : i ∈ vs) (pf : PG X tg (gName i)) : PG X tg (upGw X.K T vs (gNameP i)) := by
  refine PG.weak pf fun v σ H Q q => ?_
  obtain ⟨F, η, x, P, R, r, h, k⟩ := q
  exact k _ _ _ h (wipe_set hv) .setv (R.setv r)
theorem zgsw_nil {vs : List Nat} : PGs X [] (upGsw X.K T vs gNilP) := by
  refine PGs.weak pgs_nil fun v σ H Q q => ?_
  obtain ⟨F, η, x, P, R, r, h, k⟩ := q
  rw [h.1] at r
  exact ⟨r.inv0, k _ _ _ h.2 rfl .refl R⟩
theorem zgsw_cons {vs : List Nat} {t : TGp} {u : TGsp} (pf : PGs X (e :: es) (gCons (upGw X.K T vs t) (upGsw X.K T vs u))) : PGs X (e :: es) (upGsw X.K T vs (gConsP t u)) := by
  refine PGs.weak pf fun v σ H Q q => ?_
  obtain ⟨F, η, x, P, R, r, h, k⟩ := q
  unfold gConsP at h
  split at h
  · obtain ⟨v, us, rfl, r1, r2⟩ := r.inv
    refine ⟨v, us, rfl, F, η, _, _, R, r1, h, fun η' σ' H' h' w1 e1 R1 => ⟨F, η', _, P, R1, r2.car e1.car, h', fun η'' σ'' H'' h'' w2 e2 R2 => k _ _ _ h'' (w2.trans w1) (e1.trans e2) R2⟩⟩
  · cases h
theorem zgw_tup {vs : List Nat} {k n : Nat} {t : TGsp} (pf : PG X (.Tuple es k pos) (gTup X.K n (upGsw X.K T vs t))) : PG X (.Tuple es k pos) (upGw X.K T vs (gTupP n t)) := by
  refine PG.weak pf fun v σ H Q q => ?_
  obtain ⟨F, η, x, P, R, r, h, k⟩ := q
  unfold gTupP at h
  split at h
  · obtain ⟨a, vs, rfl, t, r⟩ := r.tup_
    exact ⟨a, vs, rfl, t.sq, by rw [r.len]; exact h.1, F, η, _, P, R, r, h.2, k⟩
  · cases h
def tYesP : TTp := fun η P => P true η
theorem PTs.weak {t t' : TT} (h : PTs X ifs t) (w : ∀ σ H Q, t' σ H Q → t σ H Q) : PTs X ifs t' := ⟨fun pins s σ H Q I q => h.run pins s σ H Q I (w _ _ _ q)⟩
theorem zts_nil : PTs X [] (upB X.K T tYesP) := PTs.weak pts_nil fun σ H Q q => by
  obtain ⟨F, η, P, R, h, k⟩ := q
  exact k _ _ _ h .refl R
theorem zts_one {c : Expr} {t : TTp} (h : PT X c (upB X.K T t)) : PTs X [c] (upB X.K T t) := pts_one h
def tLcP (ti : TIp) (g : TGp) (tt : TTp) (te : TEp) (vs : List Nat) : TFp := fun η P => ti η fun xs η1 => ∃ Inv : Nat → List PV → EP' → Prop, Inv 0 [] (wipeP η1 vs) ∧
  (∀ i x acc η2, xs[i]? = some x → Inv i acc η2 → g x (wipeP η2 vs) fun η3 => tt η3 fun b η4 => if b = true then te η4 fun y η5 => acc.length < sizeLine ∧ Inv (i + 1) (acc ++ [y]) (wipeP η5 vs) else Inv (i + 1) acc (wipeP η4 vs)) ∧
  (∀ acc η2, Inv xs.length acc η2 → P acc η2)
theorem lc_weak {K : PySem.W.Frag} {ti : TIp} {g : TGp} {tt : TTp} {te : TEp} {vs : List Nat} {σ : St} {H : Hp} {Q : VK} (q : upF K T (tLcP ti g tt te vs) σ H Q) : tLc (upI K T ti) (upGw K T vs g) (upB K T tt) (up K T te) vs σ H Q := by
  obtain ⟨F, η, P, R, h, k⟩ := q
  refine ⟨F, η, _, R, h, fun xs η1 J H1 h1 e1 R1 hJ D hD => ?_⟩
  obtain ⟨Inv, i0, step, fin⟩ := h1
  have hn : Nw H D := e1.nw (Nw.of hD)
  have nF : ¬ F D := fun z => R.tr D z hn
  have agw : ∀ j, j ∉ vs → (L2.wipe σ vs)[j]? = σ[j]? := fun j hj => wipe_out hj
  refine ⟨fun i m H2 => m = xs.length - i ∧ i ≤ xs.length ∧ ∃ acc us η2, Inv i acc η2 ∧ Rs K T (With F D) σ η2 H2 ∧ Ext σ η1 σ η2 H1 H2 ∧ H2 D = some (.lst us) ∧ Reps K (Oof (With F D) σ η2) H2 acc us, ⟨_, rfl, Nat.zero_le _, [], [], wipeP η1 vs, i0, (R1.add (o := .lst []) hD nofun).wipe rfl (fun _ _ => rfl), ?_, upd_same, .nil⟩, ?_⟩
  · exact (Ext.same (Same.new hD)).trans (.wipe fun _ _ => rfl)
  rintro i m H2 ⟨rfl, hi, acc, us, η2, p, R2, e2, hd, ru⟩
  have Rb : Rs K T (With F D) (L2.wipe σ vs) (wipeP η2 vs) H2 := R2.wipe (wipe_length _ _) agw
  have eb : Ext σ η1 (L2.wipe σ vs) (wipeP η2 vs) H1 H2 := e2.trans (.wipe agw)
  have carD : Car (Oof F σ η1) (Oof (With F D) (L2.wipe σ vs) (wipeP η2 vs)) H1 H2 := fun b o n hb t => by
    refine ⟨((eb.car (F := F)) b o n hb t).1, fun z => ?_⟩
    rcases z with (z | z) | z
    · exact n (.inl z)
    · rw [z, hD] at hb; cases hb
    · exact ((eb.car (F := F)) b o n hb t).2 (.inr z)
  have it := hJ _ H2 Rb.trO carD e2.live i
  by_cases hlt : i < xs.length
  · refine .inr ⟨(it.1 xs[i] (by simp [hlt])).1, fun H3 => ∃ acc us η3, Inv (i + 1) acc η3 ∧ Rs K T (With F D) σ η3 H3 ∧ Ext σ η1 σ η3 H1 H3 ∧ H3 D = some (.lst us) ∧ Reps K (Oof (With F D) σ η3) H3 acc us,
      fun H' ⟨acc, us, η3, q1, q2, q3, q4, q5⟩ => ⟨xs.length - (i + 1), by omega, rfl, hlt, acc, us, η3, q1, q2, q3, q4, q5⟩, fun v H3 y => ?_⟩
    obtain ⟨s, rep⟩ := (it.1 xs[i] (by simp [hlt])).2 v H3 y
    refine ⟨With F D, wipeP η2 vs, _, _, Rb.same s, rep, step i _ acc η2 (by simp [hlt]) p, fun η4 σ4 H4 h4 w4 e4 R4 => ⟨by rw [w4]; exact wipe_set_all, With F D, η4, _, R4, h4, fun c η5 H5 h5 e5 R5 => ?_⟩⟩
    have E5 : Ext σ η1 σ4 η5 H1 H5 := ((eb.trans (.same s)).trans e4).trans e5
    have ag4 : ∀ j, j ∉ vs → σ[j]? = σ4[j]? := fun j hj => ((wipe_agree (w4.trans wipe_set_all)).2 j hj).symm
    have ln4 : σ.length = σ4.length := ((wipe_agree (w4.trans wipe_set_all)).1).symm
    cases c with
    | true =>
      simp only [if_true] at h5 ⊢
      refine ⟨With F D, η5, _, R5, h5, fun y η6 w H6 h6 e6 R6 r6 => ?_⟩
      have E6 := E5.trans e6
      have e36 : Ext (L2.wipe σ vs) (wipeP η2 vs) σ4 η6 H2 H6 := (((Ext.same s).trans e4).trans e5).trans e6
      have dk : H6 D = some (.lst us) := e36.keep D _ hd (fun z => by
        obtain ⟨j, p, z1, z2⟩ := z
        obtain ⟨a, q1, q2, q3⟩ := Rb.ow j p z2
        rw [z1] at q1; cases q1
        exact q3 (.inr rfl)) nofun
      have ru6 : Reps K (Oof (With F D) σ4 η6) H6 acc us := (ru.car ((Ext.wipe agw).car (F := With F D))).car (e36.car (F := With F D))
      refine ⟨us, dk, by rw [ru.len]; exact h6.1, acc ++ [y], us ++ [w], wipeP η6 vs, h6.2, (R6.updF (.inr rfl) dk).wipe ln4 ag4, ?_, upd_same, ?_⟩
      · refine Ext.trans ⟨fun b o hb nb t => ?_, fun b hb => ?_, E6.new, E6.fst⟩ (Ext.wipe ag4)
        · rw [upd_ne (fun z => by rw [z, hD] at hb; cases hb)]; exact E6.keep b o hb nb t
        · exact live_upd nofun (E6.live b hb)
      · have c7 : Car (Oof (With F D) σ4 η6) (Oof (With F D) σ4 η6) H6 (upd H6 D (.lst (us ++ [w]))) := fun b o n hb _ => ⟨by rw [upd_ne (fun z => n (.inl (.inr z)))]; exact hb, n⟩
        exact ((ru6.app (.cons r6 .nil)).car c7).car ((Ext.wipe (H := upd H6 D (.lst (us ++ [w]))) ag4).car (F := With F D))
    | false =>
      simp only [Bool.false_eq_true, if_false] at h5 ⊢
      have e35 : Ext (L2.wipe σ vs) (wipeP η2 vs) σ4 η5 H2 H5 := ((Ext.same s).trans e4).trans e5
      have dk : H5 D = some (.lst us) := e35.keep D _ hd (fun z => by
        obtain ⟨j, p, z1, z2⟩ := z
        obtain ⟨a, q1, q2, q3⟩ := Rb.ow j p z2
        rw [z1] at q1; cases q1
        exact q3 (.inr rfl)) nofun
      exact ⟨acc, us, wipeP η5 vs, h5, R5.wipe ln4 ag4, E5.trans (.wipe ag4), dk, ((ru.car ((Ext.wipe agw).car (F := With F D))).car (e35.car (F := With F D))).car ((Ext.wipe ag4).car (F := With F D))⟩
  · have e : i = xs.length := by omega
    subst e
    exact .inl ⟨it.2 rfl, k acc η2 D us H2 (fin acc η2 p) (e1.trans e2) R2 hn nF hd ru⟩
theorem zf_lc {scope : Scope} {own : List (Str × Nat)} {ti : TIp} {g : TGp} {tt : TTp}
    (pf : PE X (.ListComp elt [⟨tg, iter, ifs, 0⟩] scope pos) (tLc (upI X.K T ti) (upGw X.K T (own.map (·.2)) g) (upB X.K T tt) (up X.K T te) (own.map (·.2)))) : PE X (.ListComp elt [⟨tg, iter, ifs, 0⟩] scope pos) (upF X.K T (tLcP ti g tt te (own.map (·.2)))) :=
  PE.weak pf fun σ H Q q => lc_weak q
end
end Z
set_option Elab.async false
set_option linter.all false
set_option maxRecDepth 100000
namespace Z
open PySem PySem.Spec L2
open PyProof.Rows hiding St
/-! ### promises over plain values -/
abbrev SpP := List PV → (PV → Prop) → Prop
abbrev SpR := Ow → List PV → (PV → Ow → Prop) → Prop
def upSp (K : PySem.W.Frag) (T : List (Addr × Str)) (sp : SpP) : Sp := fun vs H Q _ => ∃ F args P, Trk F H ∧ LamX.Tabs T H ∧ Reps K F H args vs ∧ sp args P ∧ ∀ x v H', P x → Gr H H' → LamX.Tabs T H' → Rep K F H' x v → Q v H'
structure GrB (a : Addr) (H H' : Hp) : Prop where
  keep : ∀ b o, b ≠ a → H b = some o → (∀ ps, o ≠ .tbl ps) → H' b = some o
  live : ∀ b, ¬ Nw H b → ¬ Nw H' b
def upSpR (K : PySem.W.Frag) (T : List (Addr × Str)) (sp : SpR) : Sp := fun vs H Q _ => ∃ F a ws o args P, vs = .ref a :: ws ∧ ¬ F a ∧ Trk F H ∧ LamX.Tabs T H ∧ OwAt K (With F a) H a o ∧ Reps K (With F a) H args ws ∧ sp o args P ∧
  ∀ x o' v H', P x o' → GrB a H H' → LamX.Tabs T H' → OwAt K (With F a) H' a o' → Rep K (With F a) H' x v → Q v H'
def startP (n : Nat) (args : List PV) : EP' := args.map Sl.va ++ List.replicate (n - args.length) .no
section
variable {K : PySem.W.Frag} {T : List (Addr × Str)} {F : Addr → Prop} {H H' : Hp}
theorem start_at {N : List Str} {vs : List V} {i : Nat} {v : V} (h : (start N vs)[i]? = some (some v)) : vs[i]? = some v := by
  unfold L2.start at h
  by_cases hi : i < vs.length
  · rw [List.getElem?_append_left (by simpa using hi), List.getElem?_map] at h
    cases q : vs[i]? with
    | none => rw [q] at h; cases h
    | some w => rw [q] at h; cases h; rfl
  · rw [List.getElem?_append_right (by simpa using hi), List.getElem?_replicate] at h
    split at h <;> cases h
theorem start_of {N : List Str} {vs : List V} {i : Nat} {v : V} (h : vs[i]? = some v) : (start N vs)[i]? = some (some v) := by
  have hi : i < vs.length := (List.getElem?_eq_some_iff.mp h).1
  unfold L2.start
  rw [List.getElem?_append_left (by simpa using hi), List.getElem?_map, h]; rfl
theorem startP_va {n : Nat} {args : List PV} {i : Nat} {s : Sl} (h : (startP n args)[i]? = some s) : (∃ x, s = .va x ∧ args[i]? = some x) ∨ s = .no := by
  unfold startP at h
  by_cases hi : i < args.length
  · rw [List.getElem?_append_left (by simpa using hi), List.getElem?_map] at h
    cases q : args[i]? with
    | none => rw [q] at h; cases h
    | some w => rw [q] at h; cases h; exact .inl ⟨w, rfl, rfl⟩
  · rw [List.getElem?_append_right (by simpa using hi), List.getElem?_replicate] at h
    split at h
    · cases h; exact .inr rfl
    · cases h
theorem startP_noown {n : Nat} {args : List PV} {σ : St} {a : Addr} : ¬ IsOwn σ (startP n args) a := by
  rintro ⟨i, o, h1, h2⟩
  rcases startP_va h2 with ⟨x, e, _⟩ | e <;> cases e
theorem rs_start {N : List Str} {args : List PV} {vs : List V} (tr : Trk F H) (tb : LamX.Tabs T H) (r : Reps K F H args vs) (hl : args.length ≤ N.length) : Rs K T F (start N vs) (startP N.length args) H := by
  have m : ∀ b, Oof F (start N vs) (startP N.length args) b → F b := fun b z => z.elim id fun z => absurd z startP_noown
  refine ⟨?_, fun i x e => ?_, fun i o e => ?_, fun i j o o' a e => ?_, tr, tb⟩
  · unfold L2.start startP
    simp [r.len]
  · rcases startP_va e with ⟨y, q, hy⟩ | q
    · cases q
      obtain ⟨v, h1, h2⟩ := r.get hy
      exact ⟨v, start_of h1, h2.mono m⟩
    · cases q
  · rcases startP_va e with ⟨y, q, _⟩ | q <;> cases q
  · rcases startP_va e with ⟨y, q, _⟩ | q <;> cases q
def startR (n : Nat) (o : Ow) (args : List PV) : EP' := .ow o :: startP (n - 1) args
theorem rs_startR {x : Str} {N : List Str} {a : Addr} {o : Ow} {args : List PV} {ws : List V} (nf : ¬ F a) (tr : Trk F H) (tb : LamX.Tabs T H) (ho : OwAt K (With F a) H a o) (r : Reps K (With F a) H args ws) (hl : args.length ≤ N.length) :
    Rs K T F (start (x :: N) (.ref a :: ws)) (startR (N.length + 1) o args) H ∧ ∀ b, IsOwn (start (x :: N) (.ref a :: ws)) (startR (N.length + 1) o args) b → b = a := by
  have e0 : start (x :: N) (.ref a :: ws) = some (.ref a) :: start N ws := by
    unfold L2.start
    simp
  have e1 : startR (N.length + 1) o args = .ow o :: startP N.length args := by
    unfold startR
    simp
  rw [e0, e1]
  have own : ∀ b, IsOwn (some (V.ref a) :: start N ws) (Sl.ow o :: startP N.length args) b → b = a := by
    rintro b ⟨i, p, h1, h2⟩
    cases i with
    | zero => simp at h1; exact h1.symm
    | succ i =>
      simp at h2
      rcases startP_va h2 with ⟨y, q, _⟩ | q <;> cases q
  have m : ∀ b, Oof F (some (V.ref a) :: start N ws) (Sl.ow o :: startP N.length args) b → With F a b := fun b z => z.elim .inl fun z => .inr (own b z)
  refine ⟨⟨?_, fun i y e => ?_, fun i p e => ?_, fun i j p p' b e1 e2 e3 e4 => ?_, tr, tb⟩, own⟩
  · unfold L2.start startP
    simp [r.len]
  · cases i with
    | zero => simp at e
    | succ i =>
      simp at e
      rcases startP_va e with ⟨z, q, hy⟩ | q
      · cases q
        obtain ⟨v, h1, h2⟩ := r.get hy
        exact ⟨v, by simpa using start_of h1, h2.mono m⟩
      · cases q
  · cases i with
    | zero =>
      simp at e
      subst e
      exact ⟨a, rfl, ho.mono m, nf⟩
    | succ i =>
      simp at e
      rcases startP_va e with ⟨z, q, hy⟩ | q <;> cases q
  · have z : ∀ {i p}, (Sl.ow o :: startP N.length args)[i]? = some (Sl.ow p) → i = 0 := fun {i p} e => by
      cases i with
      | zero => rfl
      | succ i =>
        simp at e
        rcases startP_va e with ⟨z, q, hy⟩ | q <;> cases q
    rw [z e1, z e2]
/-- a body keeps a promise: from the reading over plain values to the heap's -/
theorem body_sp {N : List Str} {sp : SpP} {ts : TSp} {vs : List V} {Q : VK} {E : XK} (h : upSp K T sp vs H Q E) (hl : ∀ args P, sp args P → args.length ≤ N.length) (rd : ∀ args P, sp args P → ts { nx := fun _ => P .non, rt := fun x _ => P x } (startP N.length args)) :
    upS K T ts { nx := fun _ H' => Q .non H', rt := Q } (start N vs) H := by
  obtain ⟨F, args, P, tr, tb, r, hs, k⟩ := h
  have R := rs_start (N := N) tr tb r (hl _ _ hs)
  have gr : ∀ {σ' η' H'}, Ext (start N vs) (startP N.length args) σ' η' H H' → Gr H H' := fun e => ⟨fun b o h t => e.keep b o h startP_noown t, e.live⟩
  refine ⟨F, _, _, R, rd args P hs, fun η' σ' H' q e R' => ?_, fun _ _ _ q => q.elim, fun _ _ _ q => q.elim, fun x η' σ' v H' q e R' r' => ?_⟩
  · exact k _ _ _ q (gr e) R'.tb rep_non
  · exact k _ _ _ q (gr e) R'.tb (r'.mono fun b z => .inl z)
theorem body_spR {nm : Str} {N : List Str} {sp : SpR} {ts : TSp} {vs : List V} {Q : VK} {E : XK} (h : upSpR K T sp vs H Q E) (hl : ∀ o args P, sp o args P → args.length ≤ N.length)
    (rd : ∀ o args P, sp o args P → ts { nx := fun η' => ∃ o', η'[0]? = some (Sl.ow o') ∧ P .non o', rt := fun x η' => ∃ o', η'[0]? = some (Sl.ow o') ∧ P x o' } (startR (N.length + 1) o args)) :
    upS K T ts { nx := fun _ H' => Q .non H', rt := Q } (start (nm :: N) vs) H := by
  obtain ⟨F, a, ws, o, args, P, rfl, nf, tr, tb, ho, r, hs, k⟩ := h
  obtain ⟨R, own⟩ := rs_startR (x := nm) (N := N) nf tr tb ho r (hl _ _ _ hs)
  have fin : ∀ {η' σ' H' x v}, (∃ o', η'[0]? = some (Sl.ow o') ∧ P x o') → Ext (start (nm :: N) (.ref a :: ws)) (startR (N.length + 1) o args) σ' η' H H' → Rs K T F σ' η' H' → Rep K (Oof F σ' η') H' x v → Q v H' := by
    intro η' σ' H' x v q e R' r'
    obtain ⟨o', e0, p⟩ := q
    obtain ⟨p1, q1, q2⟩ := e.fst o' e0
    obtain ⟨b, s1, s2, s3⟩ := R'.ow 0 o' e0
    have hb : b = a := by
      rw [q2] at s1
      have : (start (nm :: N) (V.ref a :: ws))[0]? = some (some (V.ref a)) := by unfold L2.start; simp
      rw [this] at s1; cases s1; rfl
    subst hb
    have m : ∀ c, With F b c → Oof F σ' η' c := fun c z => z.elim .inl fun z => .inr (by rw [z]; exact ⟨0, o', s1, e0⟩)
    exact k x o' v H' p ⟨fun c u n h t => e.keep c u h (fun z => n (own c z)) t, e.live⟩ R'.tb (s2.mono m) (r'.mono m)
  exact ⟨F, _, _, R, rd o args P hs, fun η' σ' H' q e R' => fin q e R' rep_non, fun _ _ _ q => q.elim, fun _ _ _ q => q.elim, fun x η' σ' v H' q e R' r' => fin q e R' r'⟩
end
end Z
set_option Elab.async false
set_option linter.all false
set_option maxRecDepth 100000
namespace Z
open PySem PySem.Spec L2
open PyProof.Rows hiding St
section
variable {P : Program} {w : World} {K : PySem.W.Frag} {mg : Str → Option Value} {base : Heap} {T : List (Addr × Str)}
theorem len_sp {ps : List Str} {sp : SpP} (hl : ∀ args P, sp args P → args.length = ps.length) : ∀ vs H Q E, upSp K T sp vs H Q E → vs.length = ps.length := fun vs H Q E h => by
  obtain ⟨F, args, P, _, _, r, hs, _⟩ := h
  rw [r.len, hl _ _ hs]
theorem len_spR {p : Str} {ps : List Str} {sp : SpR} (hl : ∀ o args P, sp o args P → args.length = ps.length) : ∀ vs H Q E, upSpR K T sp vs H Q E → vs.length = (p :: ps).length := fun vs H Q E h => by
  obtain ⟨F, a, ws, o, args, P, rfl, _, _, _, _, r, hs, _⟩ := h
  rw [List.length_cons, List.length_cons, r.len, hl _ _ _ hs]
/-- a def by its body, over plain values -/
theorem okP {x qual : Str} {st : Stmt} {f : Addr} {fd : FuncData} {N ps : List Str} {k : Nat} {sp : SpP} (Fn : Fun K x qual st f fd) (S : FnScope N ps (defScope st)) (hl : ∀ args P, sp args P → args.length = ps.length) (hn : ps.length ≤ N.length)
    (hbody : ∀ (cdv : Value) (A : Around) (outer : List Env) (s : Shared) (H : Hp) (E : XK), Room k (A.deeper (envOfC qual (defScope st) s.heap.objs.size f cdv)) →
      ∃ ts, PSs (cxOf CX0 P w K mg base N qual (defScope st) f cdv A outer s H E).nox (defBody st) (upS K T ts) ∧ ∀ args P, sp args P → ts { nx := fun _ => P .non, rt := fun x _ => P x } (startP N.length args)) :
    FnOk P w K mg base CX0 (k + 1) f fd ps (upSp K T sp) := by
  refine Fn.ok S (len_sp hl) fun cdv A outer s H vs Q E hr h => ?_
  obtain ⟨ts, d, rd⟩ := hbody cdv A outer s H E hr
  exact ⟨_, d, body_sp h (fun args P hs => by rw [hl _ _ hs]; exact hn) rd⟩
theorem okR {x qual : Str} {st : Stmt} {f : Addr} {fd : FuncData} {nm : Str} {N ps : List Str} {k : Nat} {sp : SpR} (Fn : Fun K x qual st f fd) (S : FnScope (nm :: N) (nm :: ps) (defScope st)) (hl : ∀ o args P, sp o args P → args.length = ps.length) (hn : ps.length ≤ N.length)
    (hbody : ∀ (cdv : Value) (A : Around) (outer : List Env) (s : Shared) (H : Hp) (E : XK), Room k (A.deeper (envOfC qual (defScope st) s.heap.objs.size f cdv)) →
      ∃ ts, PSs (cxOf CX0 P w K mg base (nm :: N) qual (defScope st) f cdv A outer s H E).nox (defBody st) (upS K T ts) ∧
        ∀ o args P, sp o args P → ts { nx := fun η' => ∃ o', η'[0]? = some (Sl.ow o') ∧ P .non o', rt := fun x η' => ∃ o', η'[0]? = some (Sl.ow o') ∧ P x o' } (startR (N.length + 1) o args)) :
    FnOk P w K mg base CX0 (k + 1) f fd (nm :: ps) (upSpR K T sp) := by
  refine Fn.ok S (len_spR hl) fun cdv A outer s H vs Q E hr h => ?_
  obtain ⟨ts, d, rd⟩ := hbody cdv A outer s H E hr
  exact ⟨_, d, body_spR h (fun o args P hs => by rw [hl _ _ _ hs]; exact hn) rd⟩
/-! ### the same where nothing is being shown (repr) -/
structure FnG (P : Program) (w : World) (K : PySem.W.Frag) (mg : Str → Option Value) (base : Heap) (k : Nat) (f : Addr) (fd : FuncData) (ps : List Str) (sp : Sp) : Prop where
  len : ∀ vs H Q E, sp vs H Q E → vs.length = ps.length
  run : ∀ (A : Around) (outer : List Env) (s : Shared) (H : Hp) (args : Args) (us : List Value) (vs : List V) (Q : VK) (E : XK), A.guards = some [] → Room k A → Env0 P w K mg base A outer s H → BindsTo s fd args (ps.zip us) → Vals vs us → sp vs H Q E →
    codeAny (model P w) A (.call (.ref f) args) (CR CX0 outer P w H s Q E) s
theorem guards_deeper {A : Around} {env : Env} (h : A.guards = some []) : (A.deeper env).guards = some [] := h
theorem okG0 {x qual : Str} {st : Stmt} {f : Addr} {fd : FuncData} {N ps : List Str} {k : Nat} {sp : Sp} (Fn : Fun K x qual st f fd) (S : FnScope N ps (defScope st)) (len : ∀ vs H Q E, sp vs H Q E → vs.length = ps.length)
    (hbody : ∀ (cdv : Value) (A : Around) (outer : List Env) (s : Shared) (H : Hp) (vs : List V) (Q : VK) (E : XK), A.guards = some [] → Room k (A.deeper (envOfC qual (defScope st) s.heap.objs.size f cdv)) → sp vs H Q E →
      ∃ t, PSs (cxOf CX0 P w K mg base N qual (defScope st) f cdv A outer s H E).nox (defBody st) t ∧ t { nx := fun _ H' => Q .non H', rt := Q } (L2.start N vs) H) : FnG P w K mg base (k + 1) f fd ps sp := by
  obtain ⟨oc, od, kV, doc, pm, an, cdv, ct, osl, rfl, lk, hcd⟩ := Fn.ex
  refine ⟨len, fun A outer s H args us vs Q E hg hr e0 hb rv hs => ?_⟩
  refine LamX.run_ofS lk hcd S hr e0 hb rv (len _ _ _ _ hs) fun hr' => ?_
  obtain ⟨t, d, q⟩ := hbody cdv A outer s H vs Q E hg hr' hs
  exact ⟨t, d.nox, q⟩
theorem okGP {x qual : Str} {st : Stmt} {f : Addr} {fd : FuncData} {N ps : List Str} {k : Nat} {sp : SpP} (Fn : Fun K x qual st f fd) (S : FnScope N ps (defScope st)) (hl : ∀ args P, sp args P → args.length = ps.length) (hn : ps.length ≤ N.length)
    (hbody : ∀ (cdv : Value) (A : Around) (outer : List Env) (s : Shared) (H : Hp) (E : XK), A.guards = some [] → Room k (A.deeper (envOfC qual (defScope st) s.heap.objs.size f cdv)) →
      ∃ ts, PSs (cxOf CX0 P w K mg base N qual (defScope st) f cdv A outer s H E).nox (defBody st) (upS K T ts) ∧ ∀ args P, sp args P → ts { nx := fun _ => P .non, rt := fun x _ => P x } (startP N.length args)) :
    FnG P w K mg base (k + 1) f fd ps (upSp K T sp) := by
  refine okG0 Fn S (len_sp hl) fun cdv A outer s H vs Q E hg hr h => ?_
  obtain ⟨ts, d, rd⟩ := hbody cdv A outer s H E hg hr
  exact ⟨_, d, body_sp h (fun args P hs => by rw [hl _ _ hs]; exact hn) rd⟩
theorem okGR {x qual : Str} {st : Stmt} {f : Addr} {fd : FuncData} {nm : Str} {N ps : List Str} {k : Nat} {sp : SpR} (Fn : Fun K x qual st f fd) (S : FnScope (nm :: N) (nm :: ps) (defScope st)) (hl : ∀ o args P, sp o args P → args.length = ps.length) (hn : ps.length ≤ N.length)
    (hbody : ∀ (cdv : Value) (A : Around) (outer : List Env) (s : Shared) (H : Hp) (E : XK), A.guards = some [] → Room k (A.deeper (envOfC qual (defScope st) s.heap.objs.size f cdv)) →
      ∃ ts, PSs (cxOf CX0 P w K mg base (nm :: N) qual (defScope st) f cdv A outer s H E).nox (defBody st) (upS K T ts) ∧
        ∀ o args P, sp o args P → ts { nx := fun η' => ∃ o', η'[0]? = some (Sl.ow o') ∧ P .non o', rt := fun x η' => ∃ o', η'[0]? = some (Sl.ow o') ∧ P x o' } (startR (N.length + 1) o args)) :
    FnG P w K mg base (k + 1) f fd (nm :: ps) (upSpR K T sp) := by
  refine okG0 Fn S (len_spR hl) fun cdv A outer s H vs Q E hg hr h => ?_
  obtain ⟨ts, d, rd⟩ := hbody cdv A outer s H E hg hr
  exact ⟨_, d, body_spR h (fun o args P hs => by rw [hl _ _ _ hs]; exact hn) rd⟩
theorem FnOk.g {k : Nat} {f : Addr} {fd : FuncData} {ps : List Str} {sp : Sp} (F : FnOk P w K mg base CX0 k f fd ps sp) : FnG P w K mg base k f fd ps sp := ⟨F.len, fun A outer s H args us vs Q E _ => F.run A outer s H args us vs Q E⟩
theorem FnG.mono {j k : Nat} {f : Addr} {fd : FuncData} {ps : List Str} {sp : Sp} (F : FnG P w K mg base j f fd ps sp) (h : j ≤ k) : FnG P w K mg base k f fd ps sp := ⟨F.len, fun A outer s H args us vs Q E hg hr => F.run A outer s H args us vs Q E hg (hr.mono h)⟩
end
/-! ### calls -/
section
variable {X : Cx} {T : List (Addr × Str)} {a b e o : Expr} {es : List Expr} {te ta tb : TEp} {t : TAp} {tf : TFp} {pos p apos : Pos} {k : Nat} {f C : Addr} {fd : FuncData} {ps : List Str} {sp : SpP} {sr : SpR} {x m : Str}
def tCallP (sp : SpP) (dps : List PV) (t : TAp) : TEp := fun η P => t η fun args η1 => sp (args ++ dps) fun z => P z η1
/-- what a call's reading asks, from the reading over plain values -/
theorem call_up {K : PySem.W.Frag} {σ : St} {H : Hp} {Q : VK} {E : XK} {dps : List PV} {dvs : List V} (hd : ∀ O H, Reps K O H dps dvs) (q : up K T (tCallP sp dps t) σ H Q) : tCall (upSp K T sp) dvs E (upA K T t) σ H Q := by
  obtain ⟨F, η, P, R, h, k⟩ := q
  refine ⟨F, η, _, R, h, fun args η1 vs H1 h1 e1 R1 r1 => ?_⟩
  exact ⟨Oof F σ η1, _, _, R1.trO, R1.tb, r1.app (hd _ _), h1, fun z v H2 pz g tb rz => k z η1 v H2 pz (e1.trans g.ext) (R1.gr g tb) rz⟩
theorem z_call (Fn : FnOk X.prog X.w X.K X.mg X.base CX0 k f fd ps (upSp X.K T sp)) (hr : Room k X.A) (hg : Gl X x) (hm : X.mg x = some (.ref f)) (hk : PySem.W.keepIn X.K (.ref f) = true) {dvs : List V} {ds : List Value} {dps : List PV} (hb : Binds X.K fd ps ds) (hd : Vals dvs ds) (hp : ∀ O H, Reps X.K O H dps dvs)
    (ha : PA X (e :: es) (upA X.K T t)) (hdb : (x == ("__debug__" : Str)) = false := by decide) (he : starEach (e :: es) X.env = (false, eval e X.env) :: starEach es X.env := by rfl) (hpl : (backTo pos (starEach es X.env)).any (·.1) = false := by rfl) :
    PE X (.Call (.Name x p) (e :: es) [] pos) (up X.K T (tCallP sp dps t)) :=
  PE.weak (pe_call Fn hr hg hm hk hb hd pass0 ha hdb he hpl) fun σ H Q q => call_up hp q
theorem run_g {pins : List (Addr × Obj)} {σ : St} {H : Hp} {s : Shared} {Q : VK} {us : List Value} {vs dvs : List V} {ds : List Value} {S : Sp} (Fn : FnG X.prog X.w X.K X.mg X.base k f fd ps S) (hG : X.A.guards = some []) (hr : Room k X.A) (hb : Binds X.K fd ps ds) (hd : Vals dvs ds)
    (I : L2.Inv X pins σ H s) (r : Vals vs us) (h : S (vs ++ dvs) H Q E0) : wpAny (model X.prog X.w) X.A (call (.ref f) us) (EP X pins σ Q) X.xe s := by
  have rr := r.append hd
  refine wpAny_call (codeAny_mono (Fn.run X.A X.stack s H ⟨us, []⟩ (us ++ ds) (vs ++ dvs) Q E0 hG hr I.env0 (hb s us I.kIn (by rw [← rr.length]; exact Fn.len _ _ _ _ h)) rr h) fun res s' hq => ?_)
  cases res with
  | error er => exact False.elim hq
  | ok fl => cases fl with
    | ret u => exact I.after hq
    | _ => exact False.elim hq
theorem pe_callG {S : Sp} {tv : TA} {dvs : List V} {ds : List Value} (Fn : FnG X.prog X.w X.K X.mg X.base k f fd ps S) (hG : X.A.guards = some []) (hr : Room k X.A) (hg : Gl X x) (hm : X.mg x = some (.ref f)) (hk : PySem.W.keepIn X.K (.ref f) = true) (hb : Binds X.K fd ps ds) (hd : Vals dvs ds)
    (ha : PA X (e :: es) tv) (hdb : (x == ("__debug__" : Str)) = false := by decide) (he : starEach (e :: es) X.env = (false, eval e X.env) :: starEach es X.env := by rfl) (hpl : (backTo pos (starEach es X.env)).any (·.1) = false := by rfl) :
    PE X (.Call (.Name x p) (e :: es) [] pos) (tCall S dvs E0 tv) := by
  constructor
  intro pins s σ H Q I q
  apply wpAny_Call_Name_kw
  apply ld_glob I hg hm _ hdb
  apply PySem.W.callWith_K (h₀ := X.base) I.ok.mod.kin hk _ he hpl
  apply thn (ha.run pos pins s σ H _ I q)
  rintro us s1 ⟨vs, H1, I1, r, q1⟩
  exact ⟨I1.kIn, run_g Fn hG hr hb hd I1 r q1⟩
theorem z_callG (Fn : FnG X.prog X.w X.K X.mg X.base k f fd ps (upSp X.K T sp)) (hG : X.A.guards = some []) (hr : Room k X.A) (hg : Gl X x) (hm : X.mg x = some (.ref f)) (hk : PySem.W.keepIn X.K (.ref f) = true) {dvs : List V} {ds : List Value} {dps : List PV} (hb : Binds X.K fd ps ds) (hd : Vals dvs ds) (hp : ∀ O H, Reps X.K O H dps dvs)
    (ha : PA X (e :: es) (upA X.K T t)) (hdb : (x == ("__debug__" : Str)) = false := by decide) (he : starEach (e :: es) X.env = (false, eval e X.env) :: starEach es X.env := by rfl) (hpl : (backTo pos (starEach es X.env)).any (·.1) = false := by rfl) :
    PE X (.Call (.Name x p) (e :: es) [] pos) (up X.K T (tCallP sp dps t)) :=
  PE.weak (pe_callG Fn hG hr hg hm hk hb hd ha hdb he hpl) fun σ H Q q => call_up hp q
/-- the first argument by reference: an own slot -/
def tCallRP (i : Nat) (sr : SpR) (t : TAp) : TEp := fun η P => (∃ o, η[i]? = some (Sl.ow o)) ∧ t η fun args η1 => match η1[i]? with
  | some (.ow o) => sr o args fun z o' => P z (η1.set i (.ow o'))
  | _ => False
theorem callR_up {K : PySem.W.Frag} {σ : St} {H : Hp} {Q : VK} {E : XK} {i : Nat} (q : up K T (tCallRP i sr t) σ H Q) : tCall (upSpR K T sr) [] E (tCons (tVar i) (upA K T t)) σ H Q := by
  obtain ⟨F, η, P, R, ⟨⟨oo, ho⟩, h⟩, k⟩ := q
  obtain ⟨b, hw, _, _⟩ := R.ow i _ ho
  refine ⟨_, hw, F, η, _, R, h, fun args η1 vs H1 h1 e1 R1 r1 => ?_⟩
  split at h1
  · rename_i o e
    obtain ⟨a, s, q0, nf⟩ := R1.ow i o e
    rw [hw] at s; cases s
    -- the other own ones and the foreign ones
    let F' : Addr → Prop := fun c => Oof F σ η1 c ∧ c ≠ b
    have m1 : ∀ c, With F' b c → Oof F σ η1 c := fun c z => z.elim (fun z => z.1) fun z => by rw [z]; exact .inr ⟨i, o, hw, e⟩
    have m2 : ∀ c, Oof F σ η1 c → With F' b c := fun c z => by
      by_cases q : c = b
      · exact .inr q
      · exact .inl ⟨z, q⟩
    refine ⟨F', b, vs, o, args, _, by simp, fun z => z.2 rfl, fun c z => R1.trO c z.1, R1.tb, q0.mono m1, r1.mono m1, h1, fun z o' v H2 pz g tb ho' rz => ?_⟩
    have c1 : Car (Oof F σ η1) (Oof F σ η1) H1 H2 := fun c u n hc t => ⟨g.keep c u (fun z => n (by rw [z]; exact .inr ⟨i, o, hw, e⟩)) hc t, n⟩
    have oth : ∀ c, c ≠ b → IsOwn σ η1 c → H2 c = H1 c := fun c n z => by
      obtain ⟨j, p, z1, z2⟩ := z
      obtain ⟨c', q1, q2, q3⟩ := R1.ow j p z2
      rw [z1] at q1; cases q1
      cases p with
      | l xs => obtain ⟨us, y, _⟩ := q2; rw [y]; exact g.keep _ _ n y nofun
      | o C fs => obtain ⟨dx, us, y, _⟩ := q2; rw [y]; exact g.keep _ _ n y nofun
    have R2 := R1.put (o' := o') e hw c1 oth (fun c z => g.live c (R1.tr c z)) tb (ho'.mono m2)
    have E2 : Ext σ η1 σ (η1.set i (.ow o')) H1 H2 := by
      refine ⟨fun c u hc n t => g.keep c u (fun z => n (by rw [z]; exact ⟨i, o, hw, e⟩)) hc t, g.live, fun c z => .inl ((own_put e).mp z), fun p q => ?_⟩
      by_cases z : (0 : Nat) = i
      · subst z; exact ⟨o, e, rfl⟩
      · rw [ne_set z] at q; exact ⟨p, q, rfl⟩
    exact k _ _ _ _ pz (e1.trans E2) R2 (rz.mono fun c z => m2 c (Oof_mono (fun b' z => (own_put e).mp z) c z))
  · cases h1
theorem z_callR {i : Nat} {e0 : Expr} (Fn : FnOk X.prog X.w X.K X.mg X.base CX0 k f fd ps (upSpR X.K T sr)) (hr : Room k X.A) (hg : Gl X x) (hm : X.mg x = some (.ref f)) (hk : PySem.W.keepIn X.K (.ref f) = true) (hb : Binds X.K fd ps [])
    (ha : PA X (e0 :: es) (tCons (tVar i) (upA X.K T t))) (hdb : (x == ("__debug__" : Str)) = false := by decide) (he : starEach (e0 :: es) X.env = (false, eval e0 X.env) :: starEach es X.env := by rfl) (hpl : (backTo pos (starEach es X.env)).any (·.1) = false := by rfl) :
    PE X (.Call (.Name x p) (e0 :: es) [] pos) (up X.K T (tCallRP i sr t)) :=
  PE.weak (pe_call Fn hr hg hm hk hb .nil pass0 ha hdb he hpl) fun σ H Q q => callR_up q
theorem z_callRG {i : Nat} {e0 : Expr} (Fn : FnG X.prog X.w X.K X.mg X.base k f fd ps (upSpR X.K T sr)) (hG : X.A.guards = some []) (hr : Room k X.A) (hg : Gl X x) (hm : X.mg x = some (.ref f)) (hk : PySem.W.keepIn X.K (.ref f) = true) (hb : Binds X.K fd ps [])
    (ha : PA X (e0 :: es) (tCons (tVar i) (upA X.K T t))) (hdb : (x == ("__debug__" : Str)) = false := by decide) (he : starEach (e0 :: es) X.env = (false, eval e0 X.env) :: starEach es X.env := by rfl) (hpl : (backTo pos (starEach es X.env)).any (·.1) = false := by rfl) :
    PE X (.Call (.Name x p) (e0 :: es) [] pos) (up X.K T (tCallRP i sr t)) :=
  PE.weak (pe_callG Fn hG hr hg hm hk hb .nil ha hdb he hpl) fun σ H Q q => callR_up q
end
end Z
set_option Elab.async false
set_option linter.all false
set_option maxRecDepth 100000
namespace Z
open PySem PySem.Spec L2
open PyProof.Rows hiding St
section
variable {X : Cx} {T : List (Addr × Str)} {a b e o : Expr} {es : List Expr} {te ta tb : TEp} {t : TAp} {tf : TFp} {pos p apos : Pos} {k : Nat} {f C : Addr} {fd : FuncData} {ps : List Str} {sp : SpP} {sr : SpR} {x m : Str} {st : Stmt} {rest : List Stmt} {t1 : TSp}
/-! ### a def that hands out a new list -/
abbrev SpF := List PV → (List PV → Prop) → Prop
def upSpF (K : PySem.W.Frag) (T : List (Addr × Str)) (sp : SpF) : Sp := fun vs H Q _ => ∃ F args P, Trk F H ∧ LamX.Tabs T H ∧ Reps K F H args vs ∧ sp args P ∧ ∀ xs a us H', P xs → Gr H H' → LamX.Tabs T H' → Nw H a → H' a = some (.lst us) → Reps K (With F a) H' xs us → Q (.ref a) H'
def upSF (K : PySem.W.Frag) (T : List (Addr × Str)) (tf : TFp) : TS := fun D σ H => ∃ F η P, Rs K T F σ η H ∧ tf η P ∧ ∀ xs η' a us σ' H', P xs η' → Ext σ η σ' η' H H' → Rs K T (With F a) σ' η' H' → Nw H a → H' a = some (.lst us) → Reps K (Oof (With F a) σ' η') H' xs us → D.rt (.ref a) H'
def tSeqFP (t : TSp) (u : TFp) : TFp := fun η P => t { nx := fun η' => u η' P, rt := fun _ _ => False } η
theorem zsf_ret (he : PE X e (upF X.K T tf)) : PSs X [.Return (some e) pos] (upSF X.K T tf) := by
  refine pss_one (PS.weak (ps_ret he) fun D σ H q => ?_)
  obtain ⟨F, η, P, R, h, k⟩ := q
  exact ⟨F, η, P, R, h, fun xs η' a us H' q e R' hn nf hv r => k xs η' a us σ H' q e R' hn hv r⟩
theorem zsf_cons (h1 : PS X st (upS X.K T t1)) (h2 : PSs X rest (upSF X.K T tf)) : PSs X (st :: rest) (upSF X.K T (tSeqFP t1 tf)) := by
  refine PSs.weak (pss_cons h1 h2) fun D σ H q => ?_
  obtain ⟨F, η, P, R, h, k⟩ := q
  refine ⟨F, η, _, R, h, fun η1 σ1 H1 q e1 R1 => ?_, fun _ _ _ q => q.elim, fun _ _ _ q => q.elim, fun _ _ _ _ _ q => q.elim⟩
  refine ⟨F, η1, P, R1, q, fun xs η' a us σ' H' q e R' hn hv r => k xs η' a us σ' H' q (e1.trans e) R' (e1.nw hn) hv r⟩
theorem okF {P : Program} {w : World} {K : PySem.W.Frag} {mg : Str → Option Value} {base : Heap} {x qual : Str} {st : Stmt} {f : Addr} {fd : FuncData} {N ps : List Str} {k : Nat} {sp : SpF} (Fn : Fun K x qual st f fd) (S : FnScope N ps (defScope st)) (hl : ∀ args P, sp args P → args.length = ps.length) (hn : ps.length ≤ N.length)
    (hbody : ∀ (cdv : Value) (A : Around) (outer : List Env) (s : Shared) (H : Hp) (E : XK), Room k (A.deeper (envOfC qual (defScope st) s.heap.objs.size f cdv)) →
      ∃ tf, PSs (cxOf CX0 P w K mg base N qual (defScope st) f cdv A outer s H E).nox (defBody st) (upSF K T tf) ∧ ∀ args P, sp args P → tf (startP N.length args) fun xs _ => P xs) :
    FnOk P w K mg base CX0 (k + 1) f fd ps (upSpF K T sp) := by
  refine Fn.ok S (fun vs H Q E h => ?_) fun cdv A outer s H vs Q E hr h => ?_
  · obtain ⟨F, args, P, _, _, r, hs, _⟩ := h
    rw [r.len, hl _ _ hs]
  · obtain ⟨tf, d, rd⟩ := hbody cdv A outer s H E hr
    obtain ⟨F, args, P, tr, tb, r, hs, k⟩ := h
    have R := rs_start (N := N) tr tb r (by rw [hl _ _ hs]; exact hn)
    refine ⟨_, d, F, _, _, R, rd args P hs, fun xs η' a us σ' H' q e R' hn hv r => ?_⟩
    exact k xs a us H' q ⟨fun b o h t => e.keep b o h startP_noown t, e.live⟩ R'.tb hn hv (r.mono fun b z => .inl z)
def tCallFP (sp : SpF) (t : TAp) : TFp := fun η P => t η fun args η1 => sp args fun xs => P xs η1
theorem z_callF {sp : SpF} (Fn : FnOk X.prog X.w X.K X.mg X.base CX0 k f fd ps (upSpF X.K T sp)) (hr : Room k X.A) (hg : Gl X x) (hm : X.mg x = some (.ref f)) (hk : PySem.W.keepIn X.K (.ref f) = true) (hb : Binds X.K fd ps [])
    (ha : PA X (e :: es) (upA X.K T t)) (hdb : (x == ("__debug__" : Str)) = false := by decide) (he : starEach (e :: es) X.env = (false, eval e X.env) :: starEach es X.env := by rfl) (hpl : (backTo pos (starEach es X.env)).any (·.1) = false := by rfl) :
    PE X (.Call (.Name x p) (e :: es) [] pos) (upF X.K T (tCallFP sp t)) := by
  refine PE.weak (pe_call Fn hr hg hm hk hb .nil pass0 ha hdb he hpl) fun σ H Q q => ?_
  obtain ⟨F, η, P, R, h, k⟩ := q
  refine ⟨F, η, _, R, h, fun args η1 vs H1 h1 e1 R1 r1 => ?_⟩
  refine ⟨Oof F σ η1, _, _, R1.trO, R1.tb, by rw [List.append_nil]; exact r1, h1, fun xs a us H2 pz g tb hn hv rz => ?_⟩
  have hn0 : Nw H a := e1.nw hn
  have nF : ¬ F a := fun z => R.tr a z hn0
  have nO : ¬ Oof F σ η1 a := fun z => R1.trO a z hn
  have m : ∀ b, Oof (With F a) σ η1 b → With (Oof F σ η1) a b := fun b z => by
    rcases z with (z | z) | z
    · exact .inl (.inl z)
    · exact .inr z
    · exact .inl (.inr z)
  -- the frame over the grown heap, a among the foreign ones
  have R2 : Rs X.K T F σ η1 H2 := R1.gr g tb
  have c : Car (Oof F σ η1) (Oof (With F a) σ η1) H1 H2 := fun b u n hb t => ⟨g.keep b u hb t, fun z => by
    rcases z with (z | z) | z
    · exact n (.inl z)
    · exact hn.no (by rw [← z]; exact hb) t
    · exact n (.inr z)⟩
  have R3 : Rs X.K T (With F a) σ η1 H2 := by
    refine ⟨R2.len, fun i y e => ?_, fun i o e => ?_, R2.nd, fun b z => ?_, tb⟩
    · obtain ⟨v, q1, q2⟩ := R1.va i y e
      exact ⟨v, q1, q2.car c⟩
    · obtain ⟨b, q1, q2, q3⟩ := R1.ow i o e
      refine ⟨b, q1, q2.car c ?_, fun z => z.elim q3 fun z => nO (by rw [← z]; exact .inr ⟨i, o, q1, e⟩)⟩
      cases o with
      | l xs => obtain ⟨vs, q, _⟩ := q2; rw [q]; exact g.keep _ _ q nofun
      | o C fs => obtain ⟨dx, ws, q, _⟩ := q2; rw [q]; exact g.keep _ _ q nofun
    · rcases z with z | z
      · exact R2.tr b z
      · rw [z]; exact fun q => q.no hv nofun
  exact k xs η1 a us H2 pz (e1.trans g.ext) R3 hn0 nF hv (rz.mono m)
/-- f(new list, ..): handed over by reference -/
def tCallRFP (tf : TFp) (sr : SpR) (t : TAp) : TEp := fun η P => tf η fun xs η1 => t η1 fun args η2 => sr (.l xs) args fun z _ => P z η2
theorem callRF_up {K : PySem.W.Frag} {σ : St} {H : Hp} {Q : VK} {E : XK} (q : up K T (tCallRFP tf sr t) σ H Q) : tCall (upSpR K T sr) [] E (tCons (upF K T tf) (upA K T t)) σ H Q := by
  obtain ⟨F, η, P, R, h, k⟩ := q
  refine ⟨F, η, _, R, h, fun xs η1 a us H1 h1 e1 R1 hn nf hv r => ⟨With F a, η1, _, R1, h1, fun args η2 vs H2 h2 e2 R2 r2 => ?_⟩⟩
  have na : ¬ IsOwn σ η1 a := fun z => by
    obtain ⟨j, p, z1, z2⟩ := z
    obtain ⟨b, q1, q2, q3⟩ := R1.ow j p z2
    rw [z1] at q1; cases q1
    exact q3 (.inr rfl)
  have na2 : ¬ IsOwn σ η2 a := fun z => by
    obtain ⟨j, p, z1, z2⟩ := z
    obtain ⟨b, q1, q2, q3⟩ := R2.ow j p z2
    rw [z1] at q1; cases q1
    exact q3 (.inr rfl)
  have hv2 : H2 a = some (.lst us) := e2.keep a _ hv na nofun
  have c12 := e2.car (F := With F a)
  let F' : Addr → Prop := Oof F σ η2
  have m1 : ∀ c, With F' a c → Oof (With F a) σ η2 c := fun c z => by
    rcases z with (z | z) | z
    · exact .inl (.inl z)
    · exact .inr z
    · exact .inl (.inr z)
  have m2 : ∀ c, Oof (With F a) σ η2 c → With F' a c := fun c z => by
    rcases z with (z | z) | z
    · exact .inl (.inl z)
    · exact .inr z
    · exact .inl (.inr z)
  refine ⟨F', a, vs, .l xs, args, _, by simp, fun z => z.elim nf na2, fun c z => R2.trO c (m1 c (.inl z)), R2.tb, ⟨us, hv2, (r.car c12).mono m1⟩, r2.mono m1, h2, fun z o' v H3 pz g tb ho' rz => ?_⟩
  have c3 : Car (Oof (With F a) σ η2) (Oof F σ η2) H2 H3 := fun c u n hc t => ⟨g.keep c u (fun q => n (by rw [q]; exact .inl (.inr rfl))) hc t, fun z => n (z.elim (fun z => .inl (.inl z)) .inr)⟩
  have R3 : Rs K T F σ η2 H3 := by
    refine ⟨R2.len, fun i y e => ?_, fun i o e => ?_, R2.nd, fun b z => g.live b (R2.tr b (.inl z)), tb⟩
    · obtain ⟨v, q1, q2⟩ := R2.va i y e
      exact ⟨v, q1, q2.car c3⟩
    · obtain ⟨b, q1, q2, q3⟩ := R2.ow i o e
      have nb : b ≠ a := fun z => q3 (.inr z)
      refine ⟨b, q1, q2.car c3 ?_, fun z => q3 (.inl z)⟩
      cases o with
      | l xs => obtain ⟨vs, q, _⟩ := q2; rw [q]; exact g.keep _ _ nb q nofun
      | o C fs => obtain ⟨dx, ws, q, _⟩ := q2; rw [q]; exact g.keep _ _ nb q nofun
  have E2 := e1.trans e2
  refine k _ _ _ _ pz ⟨fun b u hb n t => g.keep b u (fun z => hn.no (by rw [← z]; exact hb) t) (E2.keep b u hb n t) t, fun b hb => g.live b (E2.live b hb), E2.new, E2.fst⟩ R3 (rz.mono fun c z => .inl z)
theorem z_callRF {e0 : Expr} (Fn : FnOk X.prog X.w X.K X.mg X.base CX0 k f fd ps (upSpR X.K T sr)) (hr : Room k X.A) (hg : Gl X x) (hm : X.mg x = some (.ref f)) (hk : PySem.W.keepIn X.K (.ref f) = true) (hb : Binds X.K fd ps [])
    (ha : PA X (e0 :: es) (tCons (upF X.K T tf) (upA X.K T t))) (hdb : (x == ("__debug__" : Str)) = false := by decide) (he : starEach (e0 :: es) X.env = (false, eval e0 X.env) :: starEach es X.env := by rfl) (hpl : (backTo pos (starEach es X.env)).any (·.1) = false := by rfl) :
    PE X (.Call (.Name x p) (e0 :: es) [] pos) (up X.K T (tCallRFP tf sr t)) :=
  PE.weak (pe_call Fn hr hg hm hk hb .nil pass0 ha hdb he hpl) fun σ H Q q => callRF_up q
theorem z_callRFG {e0 : Expr} (Fn : FnG X.prog X.w X.K X.mg X.base k f fd ps (upSpR X.K T sr)) (hG : X.A.guards = some []) (hr : Room k X.A) (hg : Gl X x) (hm : X.mg x = some (.ref f)) (hk : PySem.W.keepIn X.K (.ref f) = true) (hb : Binds X.K fd ps [])
    (ha : PA X (e0 :: es) (tCons (upF X.K T tf) (upA X.K T t))) (hdb : (x == ("__debug__" : Str)) = false := by decide) (he : starEach (e0 :: es) X.env = (false, eval e0 X.env) :: starEach es X.env := by rfl) (hpl : (backTo pos (starEach es X.env)).any (·.1) = false := by rfl) :
    PE X (.Call (.Name x p) (e0 :: es) [] pos) (up X.K T (tCallRFP tf sr t)) :=
  PE.weak (pe_callG Fn hG hr hg hm hk hb .nil ha hdb he hpl) fun σ H Q q => callRF_up q
/-! ### instances -/
def putFP (f : Str) (x : PV) : List (Str × PV) → List (Str × PV)
  | [] => [(f, x)]
  | (n, y) :: r => if n = f then (n, x) :: r else (n, y) :: putFP f x r
theorem putF_rep {K : PySem.W.Frag} {O H} {f : Str} {x : PV} {v : V} (h : Rep K O H x v) : ∀ {fs : List (Str × PV)} {ws : List (Str × V)}, RepF K O H fs ws → RepF K O H (putFP f x fs) (putF f v ws)
  | [], _, r => by
    unfold RepF at r; subst r
    unfold putFP putF RepF
    exact ⟨v, [], rfl, h, by unfold RepF; rfl⟩
  | (n, y) :: fs, _, r => by
    unfold RepF at r
    obtain ⟨w, us, rfl, r1, r2⟩ := r
    unfold putFP putF
    by_cases e : n = f
    · subst e
      rw [if_pos rfl, if_pos rfl]
      unfold RepF
      exact ⟨v, us, rfl, h, r2⟩
    · rw [if_neg e, if_neg (by exact fun z => e (by first | exact z.symm | exact z))]
      unfold RepF
      exact ⟨w, _, rfl, r1, putF_rep h r2⟩
/-- own.f = e -/
def tFldSP (C : Addr) (i : Nat) (f : Str) (te : TEp) : TSp := fun D η => te η fun x η1 => match η1[i]? with
  | some (.ow (.o C' fs)) => C' = C ∧ fs.length < 1000 ∧ D.nx (η1.set i (.ow (.o C (putFP f x fs))))
  | _ => False
theorem z_fldS {i : Nat} {f : Str} {value : Expr} {pos' : Pos} (c : Cls X.K C) (n : NoAttr X.K C f) (ho : PE X o (tVar i)) (hv : PE X value (up X.K T te)) (hs : swapsWith value (some (.Attribute o f pos')) pos.line X.env = pure false := by rfl) :
    PS X (.Assign [.Attribute o f pos'] value pos) (upS X.K T (tFldSP C i f te)) := by
  refine PS.weak (ps_fld ho hv hs) fun D σ H q => ?_
  obtain ⟨F, η, D', R, h, k1, k2, k3, k4⟩ := q
  refine ⟨F, η, _, R, h, fun x η1 v H1 h1 e1 R1 r1 => ?_⟩
  split at h1
  · rename_i C' fs e
    obtain ⟨rfl, hl, h1⟩ := h1
    obtain ⟨a, s, ⟨dx, ws, q1, q2⟩, nf⟩ := R1.ow i _ e
    refine ⟨_, s, a, C', dx, ws, rfl, q1, c, n, by rw [q2.len]; exact hl, ?_⟩
    obtain ⟨W, E⟩ := R1.write (o' := .o C' (putFP f x fs)) (u := .ins C' dx (putF f v ws)) e s q1 nofun nofun nofun fun c => ⟨dx, _, upd_same, putF_rep (r1.car c) (q2.car c)⟩
    exact k1 _ _ _ h1 (e1.trans E) W
  · cases h1
/-- e.f of a value -/
def tFldP (C : Addr) (f : Str) (te : TEp) : TEp := fun η P => te η fun x η1 => match x with
  | .ins C' fs => C' = C ∧ ∃ y, fs.lookup f = some y ∧ P y η1
  | _ => False
theorem z_fld {f : Str} (c : Cls X.K C) (n : NoAttr X.K C f) (he : PE X e (up X.K T te)) (hb : attributeBase e f X.env (eval e X.env) = eval e X.env := by rfl) : PE X (.Attribute e f pos) (up X.K T (tFldP C f te)) := by
  refine PE.weak (pe_fld he hb) fun σ H Q q => ?_
  obtain ⟨F, η, P, R, h, k⟩ := q
  refine ⟨F, η, _, R, h, fun x η1 v H1 h1 e1 R1 r1 => ?_⟩
  split at h1
  · obtain ⟨rfl, y, hy, h1⟩ := h1
    obtain ⟨a, dx, ws, rfl, na, q, rr⟩ := r1.ins_
    obtain ⟨w, hw, rw'⟩ := (rr.look f).1 y hy
    exact ⟨a, _, dx, ws, w, rfl, q, c, n, hw, k _ _ _ _ h1 e1 R1 rw'⟩
  · cases h1
/-- C(..) -/
def tNewP (C : Addr) (sr : SpR) (dps : List PV) (t : TAp) : TEp := fun η P => t η fun args η1 => sr (.o C []) (args ++ dps) fun r o' => r = .non ∧ ∃ fs, o' = .o C fs ∧ P (.ins C fs) η1
theorem new_up {K : PySem.W.Frag} {σ : St} {H : Hp} {Q : VK} {E : XK} {dps : List PV} {dvs : List V} (hd : ∀ O H, Reps K O H dps dvs) (q : up K T (tNewP C sr dps t) σ H Q) : tMake C (upSpR K T sr) dvs E (upA K T t) σ H Q := by
  obtain ⟨F, η, P, R, h, k⟩ := q
  refine ⟨F, η, _, R, h, fun args η1 vs H1 h1 e1 R1 r1 x dx nx ndx nex => ?_⟩
  have s1 : Same H1 (upd (upd H1 dx (.own x)) x (.ins C dx [])) := fun b u hb => by
    rw [upd_ne (ne_of_none hb nx), upd_ne (ne_of_none hb ndx)]; exact hb
  have nO : ¬ Oof F σ η1 x := fun z => R1.trO x z (Nw.of nx)
  have c1 : Car (Oof F σ η1) (With (Oof F σ η1) x) H1 (upd (upd H1 dx (.own x)) x (.ins C dx [])) := fun b u n hb _ => ⟨s1 b u hb, fun z => z.elim n (ne_of_none hb nx)⟩
  refine ⟨Oof F σ η1, x, _, .o C [], _, _, rfl, nO, R1.trO.same s1, R1.tb.ext s1, ⟨dx, [], upd_same, by unfold RepF; rfl⟩, (r1.car c1).app (hd _ _), h1, fun z o' v H2 pz g tb ho' rz => ?_⟩
  obtain ⟨rfl, fs, rfl, pz⟩ := pz
  obtain ⟨dx', ws, hx, rf⟩ := ho'
  have g' : Gr H1 H2 := ⟨fun b u hb t => g.keep b u (ne_of_none hb nx) (s1 b u hb) t, fun b hb => g.live b fun q => hb fun o z => q o (s1 b o z)⟩
  refine ⟨rz.non_, k _ η1 _ H2 pz (e1.trans g'.ext) (R1.gr g' tb) ?_⟩
  unfold Rep
  exact ⟨x, dx', ws, rfl, nO, hx, rf.mono fun b z => .inl z⟩
theorem z_new (M : Mk X.K C f) (Fn : FnOk X.prog X.w X.K X.mg X.base CX0 k f fd ps (upSpR X.K T sr)) (hr : Room (k + 1) X.A) (hg : Gl X x) (hm : X.mg x = some (.ref C)) {dvs : List V} {ds : List Value} {dps : List PV} (hb : Binds X.K fd ps ds) (hd : Vals dvs ds) (hp : ∀ O H, Reps X.K O H dps dvs)
    (ha : PA X (e :: es) (upA X.K T t)) (hdb : (x == ("__debug__" : Str)) = false := by decide) (he : starEach (e :: es) X.env = (false, eval e X.env) :: starEach es X.env := by rfl) (hpl : (backTo pos (starEach es X.env)).any (·.1) = false := by rfl) :
    PE X (.Call (.Name x p) (e :: es) [] pos) (up X.K T (tNewP C sr dps t)) :=
  PE.weak (pe_make M Fn hr hg hm hb hd pass0 ha hdb he hpl) fun σ H Q q => new_up hp q
/-- o.m(..) of a value, o.m of a property -/
def tMethP (C : Addr) (m : Str) (sp : SpP) (dps : List PV) (ta : TEp) (t : TAp) : TEp := fun η P => ta η fun x η1 => (∃ fs, x = .ins C fs ∧ fs.lookup m = none) ∧ t η1 fun args η2 => sp (x :: (args ++ dps)) fun z => P z η2
theorem meth_up {K : PySem.W.Frag} {σ : St} {H : Hp} {Q : VK} {E : XK} {dps : List PV} {dvs : List V} (hd : ∀ O H, Reps K O H dps dvs) (q : up K T (tMethP C m sp dps ta t) σ H Q) : tMeth C m (upSp K T sp) dvs E (up K T ta) (upA K T t) σ H Q := by
  obtain ⟨F, η, P, R, h, k⟩ := q
  refine ⟨F, η, _, R, h, fun x η1 v H1 h1 e1 R1 r1 => ?_⟩
  obtain ⟨⟨fs, rfl, hm⟩, h1⟩ := h1
  obtain ⟨a, dx, ws, rfl, na, q, rr⟩ := r1.ins_
  refine ⟨a, dx, ws, rfl, q, (rr.look m).2 hm, F, η1, _, R1, h1, fun args η2 vs H2 h2 e2 R2 r2 => ?_⟩
  exact ⟨Oof F σ η2, _, _, R2.trO, R2.tb, .cons (r1.car e2.car) (r2.app (hd _ _)), h2, fun z v H3 pz g tb rz => k z η2 v H3 pz ((e1.trans e2).trans g.ext) (R2.gr g tb) rz⟩
theorem z_meth {pl : Sem Bool} {dvs : List V} {ds : List Value} {dps : List PV} (ho : PE X o (up X.K T ta)) (c : Cls X.K C) (hm : Meth X.K C m f) (Fn : FnOk X.prog X.w X.K X.mg X.base CX0 k f fd ps (upSp X.K T sp)) (hr : Room k X.A) (hb : Binds X.K fd ps ds) (hd : Vals dvs ds) (hp : ∀ O H, Reps X.K O H dps dvs)
    (pf : PE X e (tMeth C m (upSp X.K T sp) dvs E0 (up X.K T ta) (upA X.K T t))) : PE X e (up X.K T (tMethP C m sp dps ta t)) :=
  PE.weak pf fun σ H Q q => meth_up hp q
def tPropP (C : Addr) (sp : SpP) (ta : TEp) : TEp := fun η P => ta η fun x η1 => (∃ fs, x = .ins C fs) ∧ sp [x] fun z => P z η1
theorem z_prop {q : Addr} {f' : Str} (he : PE X e (up X.K T ta)) (c : Cls X.K C) (hp : PropOf X.K C f' q f) (Fn : FnOk X.prog X.w X.K X.mg X.base CX0 k f fd ps (upSp X.K T sp)) (hr : Room (k + 1) X.A) (hb : Binds X.K fd ps [])
    (hab : attributeBase e f' X.env (eval e X.env) = eval e X.env := by rfl) : PE X (.Attribute e f' pos) (up X.K T (tPropP C sp ta)) := by
  refine PE.weak (pe_prop he c hp Fn hr hb .nil pass0 hab) fun σ H Q q => ?_
  obtain ⟨F, η, P, R, h, k⟩ := q
  refine ⟨F, η, _, R, h, fun x η1 v H1 h1 e1 R1 r1 => ?_⟩
  obtain ⟨⟨fs, rfl⟩, h1⟩ := h1
  have r1' := r1
  obtain ⟨a, dx, ws, rfl, na, q, rr⟩ := r1.ins_
  exact ⟨a, dx, ws, rfl, q, Oof F σ η1, _, _, R1.trO, R1.tb, .cons r1' .nil, h1, fun z v H3 pz g tb rz => k z η1 v H3 pz (e1.trans g.ext) (R1.gr g tb) rz⟩
end
end Z
set_option Elab.async false
set_option linter.all false
set_option maxRecDepth 100000
namespace Z
open PySem PySem.Spec L2
open PyProof.Rows hiding St
/-! ### enumerate over a tuple -/
set_option maxHeartbeats 1000000 in
theorem meets_enum1 {v : Value} {o : Obj} {H : Heap → Prop} (B : Begins v o H) : Meets (Builtin.«enumerate.__new__» ⟨[.type "enumerate", v], []⟩) (fun _ R s => H s.heap ∧
    R (.ok (.ret (.ref (s.heap.push o).objs.size))) { s with heap := (s.heap.push o).push { cls := .type "enumerate", data := .fields #[.none, .bool false, .ref s.heap.objs.size, rawInt 0, .none, .none] } }) := by
  refine .of_wp fun prog w A R s q => ?_
  obtain ⟨hp, g, d, tk, os⟩ := s
  obtain ⟨h1, q⟩ := q
  have hs := sub_enumerate
  have it : ∀ {A' : Around} {E : Value → Shared → Prop} {Q : Value → Shared → Prop}, Q (.ref hp.objs.size) ⟨hp.push o, g, d, tk, os⟩ → wpAny (model prog w) A' (pyIter v) Q E ⟨hp, g, d, tk, os⟩ := fun z => B.iter prog w _ _ ⟨hp, g, d, tk, os⟩ _ h1 z
  wp_walk using it
  refine wpAny_stack_any fun st => wpAny_pure ?_
  split
  · rename_i c _ _ _ _ _
    cases (c == Value.type "enumerate") <;> (wp_walk using it; exact ⟨_, rfl, q⟩)
  · wp_walk using it
    exact ⟨_, rfl, q⟩
theorem call_enum1 {prog : Program} {w : World} {A : Around} {E : Value → Shared → Prop} {s : Shared} {v : Value} {o : Obj} {H : Heap → Prop} {Q : Value → Shared → Prop} (B : Begins v o H) (h1 : H s.heap)
    (q : ∀ h', IsEnum h' (s.heap.objs.size + 1) s.heap.objs.size 0 .none → h'.get? s.heap.objs.size = some o → (∀ b u, s.heap.get? b = some u → h'.get? b = some u) → Q (.ref (s.heap.objs.size + 1)) { s with heap := h' }) :
    wpAny (model prog w) A (call (.type "enumerate") [v]) Q E s := by
  refine callType_new F.called_enumerate (by decide) (F.typeCall_enumerate_1 _) (F.newCall_enumerate_1 _) (fun obj => F.args_object_init_2 obj _) F.entry_enumerate_new (meets_enum1 B) ⟨h1, ?_⟩
  have z : (s.heap.push o).objs.size = s.heap.objs.size + 1 := Heap.size_push ..
  show _ ∧ _
  rw [z]
  have he : ((s.heap.push o).push { cls := .type "enumerate", data := .fields #[.none, .bool false, .ref s.heap.objs.size, rawInt 0, .none, .none] }).get? (s.heap.objs.size + 1) = some { cls := .type "enumerate", data := .fields #[.none, .bool false, .ref s.heap.objs.size, rawInt 0, .none, .none] } := by
    rw [← z]; exact Heap.get?_push_size _ rfl
  exact ⟨⟨_, he, rfl⟩, q _ he (Heap.get?_push_of_some _ (Heap.get?_push_size _ B.free)) fun b u e => Heap.get?_push_of_some _ (Heap.get?_push_of_some _ e)⟩
def Itte (K : PySem.W.Frag) (a : Addr) : It where
  go := fun i H => ∃ (xs : List V) (x : V), SqT K H a xs ∧ xs[i]? = some x
  yld := fun i H v H' => ∃ p x, v = .ref p ∧ H p = none ∧ H' = upd H p (.tup [.int (i : Nat), x]) ∧ ∀ xs, SqT K H a xs → xs[i]? = some x
  stop := fun i H => ∃ xs : List V, SqT K H a xs ∧ xs.length = i
def TnE (a e it : Addr) (i : Nat) (h : Heap) : Prop := (∃ old, IsEnum h e it (0 + ((i : Nat) : Int)) old) ∧ h.IsTupleIter it a i ∧ e ≠ it
theorem tne_apart {a e it : Addr} {i : Nat} {h : Heap} {items : Array Value} (t : TnE a e it i h) (p : IsTup h a items) : a ≠ it ∧ e ∉ [it, a] := by
  obtain ⟨⟨old, he⟩, ⟨oi, hi, ci, _⟩, ne⟩ := t
  obtain ⟨o, ho, hc, _⟩ := p
  refine ⟨fun z => ?_, fun z => ?_⟩
  · rw [z, hi] at ho; cases ho; rw [ci] at hc; simp at hc
  · rcases List.mem_cons.mp z with z | z
    · exact ne z
    · have z : e = a := by simpa using z
      have he' : h.get? e = some _ := he
      rw [z, ho] at he'; cases he'; simp at hc
theorem turn_enumT {P : Program} {w : World} {K : PySem.W.Frag} {elts : List Expr} {kk : Nat} {tpos : Pos} (a e it : Addr) : Turn P w K (.Tuple elts kk tpos) (Itte K a) [e, it] e (TnE a e it) where
  mem := by simp
  obj := fun i h st b hb => by
    obtain ⟨⟨old, he⟩, ⟨oi, hi, ci, di⟩, _⟩ := st
    rcases List.mem_cons.mp hb with z | z
    · rw [z]; exact ⟨_, he, fun v q => nomatch q⟩
    · have z : b = it := by simpa using z
      rw [z]; exact ⟨oi, hi, fun v q => by rw [di] at q; cases q⟩
  keep := fun i h h' st k => by
    obtain ⟨⟨old, he⟩, hi, ne⟩ := st
    exact ⟨⟨old, k e (by simp) _ he⟩, hi.at fun o q => k it (by simp) o q, ne⟩
  item := by
    intro X hP hw hK hc i pins s σ H E I hf st hg
    subst hP hw hK
    obtain ⟨xs, x, hq, hx⟩ := hg
    obtain ⟨its, rv, p, hz⟩ := I.tuple hq
    obtain ⟨u, hu, ru⟩ := rv.get hx
    obtain ⟨n1, n2⟩ := tne_apart st p
    have W := WalksT.enumFrom 0 (Draws.tuple (prog := X.prog) (w := X.w) (A := X.A.in1) (I.ok.hd hc) it a n1 its.toArray) e st.2.2 n2 (by simp)
    have hi : i < its.toArray.size := by
      have := (List.getElem?_eq_some_iff.mp hu).1
      simpa using this
    refine W.item i s _ _ hi ⟨st.1, st.2.1, p⟩ fun q vals h' tk ⟨t, y, hy, ev⟩ hq' hT hm hk => ?_
    have ey : y = u := by
      rw [Array.getElem?_eq_getElem hi] at hy
      rw [List.getElem?_eq_getElem (by simpa using hi)] at hu
      simp at hy hu
      rw [← hy, ← hu]
    subst ey
    refine ⟨_, rfl, W.go elts kk tpos i q { s with heap := h', toks := tk } _ _ hm fun h'' st' hk' => ?_⟩
    have nq := W.apart i q h' hm
    have hT2 : IsTup h'' q vals := by
      obtain ⟨o, z1, z2⟩ := hT
      exact ⟨o, hk' q o nq z1, z2⟩
    have kp : ∀ b o, b ∉ [e, it] → s.heap.get? b = some o → h''.get? b = some o := fun b o hb z => hk' b o hb (hk b o hb z)
    have new : ObjOk X.prog X.w (upd H q (.tup [.int (i : Nat), x])) h'' q (.tup [.int (i : Nat), x]) := by
      refine ⟨by show 2 ≤ sizeLine; decide, [.int (0 + (i : Int)) t, y], .cons ⟨t, by rw [Int.zero_add]⟩ (.cons ru .nil), ?_⟩
      rw [ev] at hT2; exact hT2
    have hn : H q = none := I.hok.fresh hq'
    refine ⟨.ref q, _, I.turnedNew (t' := tk) (ch := [e, it]) kp hf hq' new, rfl, ⟨q, x, rfl, hn, rfl, fun ys hy => by rw [I.tuple_inj hy hq]; exact hx⟩, ⟨st'.1, st'.2.1, st.2.2⟩, fun b hb => ?_⟩
    have hb' : b ≠ q := fun z => nq (by rw [← z]; exact hb)
    rw [upd_ne hb']
    exact (hf b hb).1
  done := by
    intro X hP hw hK hc i pins s σ H E I hf st hg
    subst hP hw hK
    obtain ⟨xs, hq, hx⟩ := hg
    obtain ⟨its, rv, p, hz⟩ := I.tuple hq
    obtain ⟨n1, n2⟩ := tne_apart st p
    have W := WalksT.enumFrom 0 (Draws.tuple (prog := X.prog) (w := X.w) (A := X.A.in1) (I.ok.hd hc) it a n1 its.toArray) e st.2.2 n2 (by simp)
    have hl : its.toArray.size = i := by rw [← hx, rv.length]; simp
    refine W.done s _ _ (by rw [hl]; exact ⟨st.1, st.2.1, p⟩) fun h' tk kp => ⟨rfl, ?_⟩
    have nit : ∀ b u, H b = some u → b ∉ [e, it] := fun b u z hb => by
      have := (hf b hb).1
      rw [this] at z; cases z
    exact I.step (g' := s.gens) (d' := s.drawn) (t' := tk) (ch := [e, it]) (fun b hb => ⟨(hf b hb).2.2.2.1, (hf b hb).2.1, (hf b hb).2.2.2.2.1, (hf b hb).2.2.2.2.2⟩) (fun b o _ _ hb z _ => kp b o hb z) (fun b o _ _ hb z _ => ⟨o.slots, kp b o hb z⟩) (fun _ _ _ _ n => n)
      (fun b o hb z => ⟨o, kp b o hb z⟩) (fun _ _ z => z) (fun _ _ _ z => z) (fun b ps z => ⟨#[], by rw [z]; simp⟩) (fun m hm => by
        obtain ⟨o, es, ep, ho, r⟩ := hm
        exact ⟨o, es, ep, kp _ o (fun z => (hf _ z).2.1 rfl) ho, r⟩) (fun b u z => (I.hok b u z).stay (fun c v hc q => kp c v (fun y => by
          rcases hc with hc | hc
          · exact nit b u z (by rw [← hc]; exact y)
          · exact nit c _ hc y) q) (fun _ q => q) fun _ _ q => q) I.bare
  self := fun A i s Q E st q => by
    obtain ⟨⟨old, he⟩, _⟩ := st
    exact wpAny_pyIter_enum he q
def iEnumT (K : PySem.W.Frag) (te : TE) : TI := fun σ H R => te σ H fun v H1 => ∃ a xs, [v] = [V.ref a] ∧ SqT K H1 a xs ∧ R (Itte K a) H1
theorem pi_enumT {X : Cx} {e : Expr} {te : TE} {p pos tpos : Pos} {elts : List Expr} {kk : Nat} (hg : Gl X "enumerate") (hm : X.mg "enumerate" = none) (he : PE X e te) (hs : starEach [e] X.env = [(false, eval e X.env)] := by rfl) :
    PI X (.Tuple elts kk tpos) (.Call (.Name "enumerate" p) [e] [] pos) (iEnumT X.K te) := by
  constructor
  intro pins s σ H R I h
  refine Call_ (ld_blt I hg hm boot_enumerate (PyProof.Rows.callWith_type1 (thn ((pa_cons he pa_nil hs).run pos pins s σ H (fun vs H1 => ∃ a xs, vs = [V.ref a] ∧ SqT X.K H1 a xs ∧ R (Itte X.K a) H1) I h) fun us s1 ⟨vs, H1, I1, r1, q1⟩ => ?_) hs rfl))
  obtain ⟨a, xs, rfl, hq, q⟩ := q1
  obtain ⟨u, rfl, ru⟩ := vals1 r1
  cases ru
  obtain ⟨its, rv, p', hz⟩ := I1.tuple hq
  refine call_enum1 (begins_tuple a its.toArray) p' fun h' he hit hk => wpAny_pyIter_enum he ?_
  have I2 : L2.Inv X pins σ H1 { s1 with heap := h' } := I1.kept (t' := s1.toks) hk
  refine ⟨s1.heap.objs.size + 1, [s1.heap.objs.size + 1, s1.heap.objs.size], _, _, H1, rfl, I2, turn_enumT a (s1.heap.objs.size + 1) s1.heap.objs.size, ⟨⟨.none, he⟩, ⟨_, hit, rfl, rfl⟩, Nat.succ_ne_self _⟩, fun b hb => ?_, q⟩
  have hle : s1.heap.objs.size ≤ b := by
    rcases List.mem_cons.mp hb with z | z
    · rw [z]; exact Nat.le_succ _
    · have z : b = s1.heap.objs.size := by simpa using z
      rw [z]; exact Nat.le_refl _
  exact I1.fpOk hle (I1.hok.fresh hle)
def enumP (xs : List PV) : List PV := xs.zipIdx.map fun p => .tup [.int (p.2 : Nat), p.1]
section
variable {X : Cx} {T : List (Addr × Str)} {e : Expr} {te : TEp}
def iEnumP (te : TEp) : TIp := fun η P => te η fun x η1 => match x with
  | .tup xs => P (enumP xs) η1
  | _ => False
theorem enumP_get {xs : List PV} {i : Nat} {x : PV} (h : (enumP xs)[i]? = some x) : ∃ y, xs[i]? = some y ∧ x = .tup [.int (i : Nat), y] := by
  unfold enumP at h
  rw [List.getElem?_map, List.getElem?_zipIdx] at h
  cases q : xs[i]? with
  | none => rw [q] at h; cases h
  | some y => rw [q] at h; simp at h; exact ⟨y, rfl, h.symm⟩
theorem it_enumT {K : PySem.W.Frag} {O H} {a : Addr} {xs : List PV} {vs : List V} (t : TupAt K O H a vs) (r : Reps K O H xs vs) : Itr8 K O (Itte K a) (enumP xs) H := fun O' H' tr c _ i => by
  have h' := t.inj_car c
  have r' := r.car c
  refine ⟨fun x e => ?_, fun e => ⟨vs, h', by rw [r'.len]; simpa [enumP] using e⟩⟩
  obtain ⟨y, hy, rfl⟩ := enumP_get e
  obtain ⟨v, e1, r1⟩ := r'.get hy
  refine ⟨⟨vs, v, h', e1⟩, fun w H'' q => ?_⟩
  obtain ⟨p, x', rfl, hp, rfl, hx⟩ := q
  have := hx vs h'
  rw [e1] at this; cases this
  exact ⟨Same.new hp, rep_newT tr hp (.cons rep_int (.cons r1 .nil))⟩
theorem zi_enumT {p pos tpos : Pos} {elts : List Expr} {kk : Nat} (hg : Gl X "enumerate") (hm : X.mg "enumerate" = none) (he : PE X e (up X.K T te)) (hs : starEach [e] X.env = [(false, eval e X.env)] := by rfl) :
    PI X (.Tuple elts kk tpos) (.Call (.Name "enumerate" p) [e] [] pos) (upI X.K T (iEnumP te)) := by
  refine PI.weak (pi_enumT hg hm he hs) fun σ H Q q => ?_
  obtain ⟨F, η, P, R, h, k⟩ := q
  refine ⟨F, η, _, R, h, fun x η1 v H1 h1 e1 R1 r1 => ?_⟩
  split at h1
  · obtain ⟨a, vs, rfl, t, rr⟩ := r1.tup_
    exact ⟨a, vs, rfl, t.sq, k _ _ _ _ h1 e1 R1 (it_enumT t rr)⟩
  · cases h1
end
end Z
set_option Elab.async false
set_option linter.all false
set_option maxRecDepth 100000
namespace Z
open PySem PySem.Spec L2
open PyProof.Rows hiding St
section
variable {prog : Program} {w : World} {A : Around} {E : Value → Shared → Prop} {s : Shared}
def copied (g : Heap) (vs : List Value) : Heap := (g.push (seqObj "list" #[] 0)).update g.objs.size (Obj.mapSeq (· ++ vs.toArray))
/-- what sorted reads of a tuple: its items in a new list -/
theorem collect_tup {l : Addr} {vs : List Value} {Q : List Value → Shared → Prop} (p : IsTup s.heap l vs.toArray) (hz : vs.length ≤ sizeLine) (q : Q vs { s with heap := copied s.heap vs }) :
    wpAny (model prog w) A (collect (.ref l)) Q E s := by
  obtain ⟨ob, hb, cb, k, db⟩ := p
  have old : (s.heap.push (seqObj "list" #[] 0)).get? l = some ob := Heap.get?_push_of_some _ hb
  have new : (s.heap.push (seqObj "list" #[] 0)).get? s.heap.objs.size = some (seqObj "list" #[] 0) := Heap.get?_push_size _ rfl
  have tt : (Value.type "tuple" == Value.type "tuple") = true := by rfl
  have sz : ((#[] : Array Value) ++ vs.toArray).size ≤ sizeLine + 1 := by
    rw [Array.size_append, List.size_toArray]
    simp
    omega
  unfold collect
  refine wpAny_bind
    (wpAny_runValue (codeAny_builtin entry_proto_collect' ?_))
  show wpAny _ _ (do
    again (.builtin "list.__iadd__" ⟨[← newList [], .ref l], []⟩)) _ _ s
  refine wpAny_bind (wpAny_newList
    (wpAny_pure ⟨Code.quiet_builtin _ (by decide +kernel), codeAny_builtin entry_list_iadd' ?_⟩))
  show wpAny _ _
    (Builtin.List.listExtendWith (.ref s.heap.objs.size) (.ref l) (.ref s.heap.objs.size)) _ _
    { s with heap := s.heap.push (seqObj "list" #[] 0) }
  unfold Builtin.List.listExtendWith
  refine wpAny_bind (wpAny_typeOf (T := "tuple") ⟨ob, old, cb⟩ ?_)
  rw [if_pos (by rw [tt, Bool.or_true])]
  refine wpAny_bind (listItems_at old db ?_)
  refine wpAny_bind (listItems_at new rfl ?_)
  rw [if_neg (by simp)]
  refine wpAny_bind (listUpdate_at new rfl ?_ (Nat.zero_le _) sz)
  refine wpAny_pure ?_
  show wpAny (model prog w) A (do
    let ob ← load s.heap.objs.size
    match ob.data with
    | .seq xs _ => pure xs.toList
    | _ => unsupported "internal:collect") Q E { s with heap := copied s.heap vs }
  refine wpAny_bind (wpAny_load (get?_update_seq new _) ?_)
  show wpAny _ _ (pure ((#[] : Array Value) ++ vs.toArray).toList) Q E _
  have e : ((#[] : Array Value) ++ vs.toArray).toList = vs := by simp
  rw [e]
  exact wpAny_pure q
theorem sort_of_tup {l : Addr} {vs : List Value} {kw : List (Str × Value)} {Q : Value → Shared → Prop} (p : IsTup s.heap l vs.toArray) (hz : vs.length ≤ sizeLine) (a1 : argsOk "sorted" ⟨[.ref l], kw⟩) (a2 : ∀ x, argsOk "list.sort" ⟨[.ref x], kw⟩)
    (body : ∀ E' : Value → Shared → Prop, wpAny (model prog w) A.in1.in1 (Builtin.«list.sort» ⟨[.ref (s.heap.objs.size + 1)], kw⟩)
      (fun f s' => f = .done (.ret .none) ∧ Q (.ref (s.heap.objs.size + 1)) s') E' { s with heap := PySem.W.copyHeap s.heap vs }) :
    wpAny (model prog w) A (call (.builtin "sorted") [.ref l] kw) Q E s := by
  have sz : (copied s.heap vs).objs.size = s.heap.objs.size + 1 := by
    unfold copied
    rw [Heap.size_update, size_push']
  refine call_function_entry_kw kind_sorted plain_sorted entry_sorted a1 ?_
  unfold Builtin.«sorted»
  refine wpAny_bind
    (m := checkCount "sorted" 1 1 _) (wpAny_pure ?_)
  refine wpAny_bind (collect_tup p hz ?_)
  refine wpAny_bind (wpAny_newList ?_ hz)
  show wpAny _ _ _ _ _
    { s with heap := PySem.W.copyHeap s.heap vs }
  rw [sz]
  refine wpAny_bind (wpAny_holding
    (wpAny_call_entry_kw slot_list_sort ⟨_, PySem.W.copyHeap_at s.heap vs, rfl⟩ entry_list_sort ?_ (a2 _)))
  show wpAny (model prog w) A.in1.in1
    (Builtin.«list.sort» ⟨[.ref (s.heap.objs.size + 1)], kw⟩) _ _ _
  refine wpAny_mono (body _) (fun f s' z => ?_) fun _ _ e => e
  obtain ⟨e, z⟩ := z
  subst e
  exact ⟨_, rfl, wpAny_pure ⟨_, rfl, z⟩⟩
/-- sorted(a tuple, key=f), the key without effect -/
theorem sorted_key_tup {β : Type} {R : Value → β → Prop} {bs : List β} {l : Addr} {vs : List Value} {f : Value} {kw : List (Str × Value)} {Q : Value → Shared → Prop} (k : β → PyData) (p : IsTup s.heap l vs.toArray) (e : PySem.W.EachIs R vs bs) (hal : PySem.W.AllAlike (bs.map k)) (hk : PySem.W.Sortable (bs.map k)) (hL : bs.length ≤ sizeLine)
    (hu : ∀ x, x ∈ bs → A.units + 2 + (k x).depth < cLine) (a1 : argsOk "sorted" ⟨[.ref l], kw⟩) (a2 : ∀ x, argsOk "list.sort" ⟨[.ref x], kw⟩) (ht : ∀ x, Builtin.«list.sort» ⟨[.ref x], kw⟩ = ksk_tree x f false)
    (turn : ∀ (v : Value) (x : β), R v x → x ∈ bs → ∀ (h : Heap) (tk : Nat), (∀ b o, s.heap.get? b = some o → h.get? b = some o) →
      wpAny (model prog w) A.in1.in1 (call f [v]) (PySem.W.KeyPure (k x) { s with heap := h, toks := tk }) (fun _ _ => False) { s with heap := h, toks := tk })
    (q : ∀ out c h' tk, (∀ b o, s.heap.get? b = some o → h'.get? b = some o) → h'.get? (s.heap.objs.size + 1) = some (seqObj "list" (List.toArray out) c) → out.length = bs.length → PySem.W.EachIs R out (bs.mergeSort (PySem.W.dataLe false k)) →
      Q (.ref (s.heap.objs.size + 1)) { s with heap := h', toks := tk }) :
    wpAny (model prog w) A (call (.builtin "sorted") [.ref l] kw) Q E s := by
  have grown : ∀ {g : Heap}, PySem.W.KeepsBut (s.heap.objs.size + 1) (PySem.W.copyHeap s.heap vs) g → ∀ b o, s.heap.get? b = some o → g.get? b = some o := fun kp b o z =>
    kp b o (Nat.ne_of_lt (Nat.lt_succ_of_lt (Heap.lt_size z))) (PySem.W.copyHeap_old z)
  have hlen : (bs.map k).length = vs.length := by rw [List.length_map]; exact e.length.symm
  refine sort_of_tup p (by rw [e.length]; exact hL) a1 a2 fun E' => ?_
  rw [ht]
  refine PySem.W.keyH_tree (kz := bs.map k) (s := { s with heap := PySem.W.copyHeap s.heap vs })
    (PySem.W.copyHeap_at s.heap vs) hlen (by rw [e.length]; exact hL) hal hk (fun d hd => ?_)
    (PySem.W.keyH_turns (s := { s with heap := PySem.W.copyHeap s.heap vs }) e fun v x hR hx h tk kp => turn v x hR hx h tk (grown kp))
    fun h' tk out c kp hD ko => ⟨rfl, ?_⟩
  · obtain ⟨x, hx, rfl⟩ := List.mem_map.mp hd
    have := hu x hx
    show A.units + 1 + 1 + _ < _
    omega
  · exact q out c h' tk (grown kp) hD ((ko.length hlen).trans e.length) (PySem.W.keyedOut_each k ko e)
end
end Z
set_option Elab.async false
set_option linter.all false
set_option maxRecDepth 100000
namespace Z
open PySem PySem.Spec L2
open PyProof.Rows hiding St
/-- a parameter's lambda scope -/
structure Lam1 (nm : Str) (scope : Scope) : Prop where
  kind : scope.kind = .function
  co : scope.isCoroutine = false
  gen : scope.isGenerator = false
  loc : scope.names.lookup nm = some .local
  own : ∀ y ∈ scope.names, y.2 ≠ .cell
section
variable {prog : Program} {w : World} {A : Around} {E : Value → Shared → Prop} {s : Shared}
/-- lambda x: (x[i], x[j]), called with a tuple -/
theorem lam_pair {f r : Addr} {c' : Addr} {name qual nm : Str} {params : Arguments} {scope : Scope} {pm ctv : Value} {items : Array Value} {i j : Int} {ki kj : Nat} {u v : Value} {k1 k2 p1 p2 p3 p4 p5 p6 kt pt} {Q : Value → Shared → Prop}
    (L : Lam1 nm scope) (hroom : A.depth < recursionLimit)
    (ho : s.heap.get? f = some (PySem.W.kla_obj name qual params (.Tuple [.Subscript (.Name nm p1) (.Constant (.int i) k1 p2) p3, .Subscript (.Name nm p4) (.Constant (.int j) k2 p5) p6] kt pt) scope [] pm c' ctv))
    (hcd : s.heap.CodeRec (.ref c') qual) (hlim : s.heap.NoLimit)
    (hb : bindArgs (PySem.W.kla_fn name qual params (.Tuple [.Subscript (.Name nm p1) (.Constant (.int i) k1 p2) p3, .Subscript (.Name nm p4) (.Constant (.int j) k2 p5) p6] kt pt) scope [] pm (.ref c') ctv) ⟨[.ref r], []⟩ = pure [(nm, .ref r)])
    (ht : IsTup s.heap r items) (bi : -(2 ^ 63) ≤ i ∧ i < 2 ^ 63 ∧ seqIndex? i items.size = some ki ∧ items[ki]? = some u) (bj : -(2 ^ 63) ≤ j ∧ j < 2 ^ 63 ∧ seqIndex? j items.size = some kj ∧ items[kj]? = some v)
    (hd : (nm == ("__debug__" : Str)) = false)
    (q : ∀ h' tk a, (∀ b o, s.heap.get? b = some o → h'.get? b = some o) → IsTup h' a #[u, v] → Q (.ref a) { s with heap := h', toks := tk }) :
    wpAny (model prog w) A (call (.ref f) [.ref r]) Q E s := by
  refine wpAny_call (PySem.W.kla_callFunE hroom ho rfl L.co L.gen rfl hcd ?_)
  rw [hb]
  refine wpAny_pure (wpAny_newFunctionEnv L.own (fun y hy => ?_) (fun h1 hns hsb => ⟨hlim.fresh _ hsb, ?_⟩) L.kind)
  · have e : y = (nm, .ref r) := by simpa using hy
    rw [e]; exact L.loc
  refine PySem.W.kla_codeExpr ?_
  have kp : ∀ b o, s.heap.get? b = some o → h1.get? b = some o := fun b o e => hsb.extBut b o (Nat.ne_of_lt (Heap.lt_size e)) (Heap.get?_push_of_some _ e)
  have ht1 : IsTup h1 r items := ht.keeps kp
  have nml : (fun y => ([(nm, Value.ref r)] : List (Str × Value)).reverse.lookup y) nm = some (.ref r) := by
    show ([(nm, Value.ref r)] : List (Str × Value)).lookup nm = _
    simp
  refine wpAny_Tuple_spliced ?_
  show wpAny _ _ (spliced [(false, _), (false, _)]) _ _ _
  refine Calls.spliced_cons (Subscript_ (wpAny_Name (wpAny_loadName_local L.kind L.loc hns nml ?_) hd))
  refine wpAny_Constant_int (item_tuple (ht1) bi.1 bi.2.1 bi.2.2.1 bi.2.2.2 ?_)
  refine Calls.spliced_cons (Subscript_ (wpAny_Name (wpAny_loadName_local L.kind L.loc hns nml ?_) hd))
  refine wpAny_Constant_int (item_tuple (ht1) bj.1 bj.2.1 bj.2.2.1 bj.2.2.2 ?_)
  refine Calls.spliced_nil ⟨by show 2 ≤ sizeLine; decide, ?_⟩
  exact q _ _ _ (fun b o e => Heap.get?_push_of_some _ (kp b o e)) (IsTup.new _ _)
end
section
variable {X : Cx} {T : List (Addr × Str)} {e : Expr} {te : TEp}
/-- the key: the items i, j of a tuple -/
def keyP (i j : Int) : PV → PyData
  | .tup xs => match atI xs i, atI xs j with
    | some a, some b => .tuple [encD a, encD b]
    | _, _ => .none
  | _ => .none
/-- what a key's item may be -/
def flatD : PV → Bool
  | .int _ => true
  | .str _ => true
  | _ => false
/-- sorted(t, key=lambda x: (x[i], x[j])), t a tuple of tuples -/
def tSortLP (i j : Int) (te : TEp) : TEp := fun η P => te η fun x η1 => match x with
  | .tup xs => (∀ y ∈ xs, ∃ ys a b, y = .tup ys ∧ atI ys i = some a ∧ atI ys j = some b ∧ flatD a = true ∧ flatD b = true) ∧ PySem.W.AllAlike (xs.map (keyP i j)) ∧ xs.length ≤ sizeLine ∧ P (.lst (xs.mergeSort (PySem.W.dataLe false (keyP i j)))) η1
  | _ => False
theorem flat_reads {K : PySem.W.Frag} {O H} {h : Heap} {x : PV} {v : V} {u : Value} (f : flatD x = true) (r : Rep K O H x v) (ru : L2.RelV v u) : Reads h u (encD x) [] := by
  cases x with
  | int i =>
    cases r.int_
    obtain ⟨t, rfl⟩ := ru
    exact .int _ _
  | str i =>
    cases r.str_
    obtain ⟨t, rfl⟩ := ru
    exact .str _ _
  | _ => cases f
theorem z_sortL {i j : Int} {nm : Str} {x : Str} {p lpos pos kpos : Pos} {params : Arguments} {scope : Scope} {c P : Addr} {k1 k2 p1 p2 p3 p4 p5 p6 kt pt} {k : Nat}
    (hg : Gl X "sorted") (hm : X.mg "sorted" = none) (he : PE X e (up X.K T te)) (hr : Room k X.A) (L : Lam1 nm scope) (hdef : defaultsOf params X.env = ([], [])) (TB : LamX.TabB X.base X.mg c P) (hcode : X.env.code = .ref c) (hmT : (P, X.env.qual ++ "<lambda>") ∈ T) (huT : ∀ p ∈ T, p.1 = P → p.2 = X.env.qual ++ "<lambda>")
    (hfree : ∀ y ∈ scope.names, y.2 ≠ .free)
    (hcl : cloFrom X.env.cells scope.names [] = [])
    (hb : ∀ (r : Addr) (q : Str) (pm cv ctv : Value), bindArgs (PySem.W.kla_fn "<lambda>" q params (.Tuple [.Subscript (.Name nm p1) (.Constant (.int i) k1 p2) p3, .Subscript (.Name nm p4) (.Constant (.int j) k2 p5) p6] kt pt) scope [] pm cv ctv) ⟨[.ref r], []⟩ = pure [(nm, .ref r)])
    (bi : -(2 ^ 63) ≤ i ∧ i < 2 ^ 63) (bj : -(2 ^ 63) ≤ j ∧ j < 2 ^ 63) (hd : (nm == ("__debug__" : Str)) = false)
    (hs : starEach [e] X.env = [(false, eval e X.env)] := by rfl) (h5 : backTo pos (starEach [e] X.env) = (false, eval e X.env) :: backTo pos (starEach [] X.env) := by rfl) (h6 : (backTo pos (starEach [e] X.env)).any (·.1) = false := by rfl) :
    PE X (.Call (.Name "sorted" p) [e] [⟨some "key", .Lambda params (.Tuple [.Subscript (.Name nm p1) (.Constant (.int i) k1 p2) p3, .Subscript (.Name nm p4) (.Constant (.int j) k2 p5) p6] kt pt) scope lpos, kpos⟩] pos) (up X.K T (tSortLP i j te)) := by
  constructor
  intro pins s σ H Q I h
  obtain ⟨F, η, PP, R, h, kk⟩ := h
  apply wpAny_Call_Name_kw
  refine ld_blt (u := .builtin "sorted") I hg hm (by decide +kernel) ?_
  refine PyProof.Rows.callWith_kw (thn ((pa_cons he pa_nil hs).run pos pins s σ H (fun vs H1 => ∃ xs η1 a us, vs = [V.ref a] ∧ TupAt X.K (Oof F σ η1) H1 a us ∧ Reps X.K (Oof F σ η1) H1 xs us ∧ Rs X.K T F σ η1 H1 ∧ Ext σ η σ η1 H H1 ∧
    (∀ y ∈ xs, ∃ ys a b, y = .tup ys ∧ atI ys i = some a ∧ atI ys j = some b ∧ flatD a = true ∧ flatD b = true) ∧ PySem.W.AllAlike (xs.map (keyP i j)) ∧ xs.length ≤ sizeLine ∧ PP (.lst (xs.mergeSort (PySem.W.dataLe false (keyP i j)))) η1) I ?_) fun us s1 hA => ?_) ?_ ?_ ?_ ?_
  · refine ⟨F, η, _, R, h, fun x η1 v H1 h1 e1 R1 r1 => ?_⟩
    split at h1
    · obtain ⟨a, us, rfl, t, rr⟩ := r1.tup_
      exact ⟨_, η1, a, us, rfl, t, rr, R1, e1, h1⟩
    · cases h1
  · obtain ⟨vs, H1, I1, r1, xs, η1, a, us', rfl, tA, rr, R1, e1, hx, hal, hz, hP⟩ := hA
    obtain ⟨u0, rfl, ru⟩ := vals1 r1
    cases ru
    show wpAny _ _ (evalAll [do let v ← eval (.Lambda params (.Tuple [.Subscript (.Name nm p1) (.Constant (.int i) k1 p2) p3, .Subscript (.Name nm p4) (.Constant (.int j) k2 p5) p6] kt pt) scope lpos) X.env; standAt pos; pure v]) _ _ s1
    refine wpAny_evalAll_cons (wpAny_bind (LamX.lam_make2 I1 TB hcode hmT huT R1.tb hdef (fun y hy e => absurd e (hfree y hy)) fun f c' pm ctv H2 s2 I2 eN T2 hf hfn hfr hco => wpAny_bind (wpAny_standAt (wpAny_pure (wpAny_evalAll_nil ?_)))))
    have g : Gr H1 H2 := ⟨eN, fun b n q => n fun o ho => Classical.byContradiction fun nt => q.no (eN b o ho fun ps z => nt ⟨ps, z⟩) fun ps z => nt ⟨ps, z⟩⟩
    have R2 := R1.gr g T2
    have c12 : Car (Oof F σ η1) (Oof F σ η1) H1 H2 := g.car
    have tA2 := tA.car c12
    have rr2 := rr.car c12
    obtain ⟨its, rits, p, hz2⟩ := I2.tuple tA2.sq
    rw [hcl] at hf
    obtain ⟨⟨oc, vs, tq, hoc, hdc, hvc⟩, _, _⟩ := I2.hok c' _ hco
    have hu := hr.un
    have hdp := hr.dp
    have hmem : ∀ y ∈ xs, (keyP i j y).depth ≤ 1 ∧ ∃ ys a b, y = .tup ys ∧ atI ys i = some a ∧ atI ys j = some b ∧ flatD a = true ∧ flatD b = true := fun y hy => by
      obtain ⟨ys, a, b, rfl, ha, hb', fa, fb⟩ := hx y hy
      refine ⟨?_, ys, a, b, rfl, ha, hb', fa, fb⟩
      unfold keyP
      simp only [ha, hb']
      cases a <;> first | cases fa | skip
      all_goals (cases b <;> first | cases fb | skip)
      all_goals (simp [encD, toD, PyData.depth, PyData.depthAll])
    refine sorted_key_tup (R := ValR X.K (Oof F σ η1) H2) (bs := xs) (f := .ref f) (keyP i j) p (each_val rr2 rits) hal ?_ hz (fun y hy => by have := (hmem y hy).1; omega) (ksk_s1 _ _) (fun x => ?_) (fun x => ksk_t1 f x) ?_ ?_
    · refine .inl fun d hd => ?_
      obtain ⟨y, hy, rfl⟩ := List.mem_map.mp hd
      obtain ⟨_, ys, a, b, rfl, ha, hb', _, _⟩ := hmem y hy
      exact ⟨encD a, [encD b], by unfold keyP; simp only [ha, hb']⟩
    · exact ksk_l1 _ _
    · rintro v y ⟨w, rw', rep⟩ hy h tk kp
      obtain ⟨_, ys, a, b, rfl, ha, hb', fa, fb⟩ := hmem y hy
      obtain ⟨r, ws, rfl, t, rw2⟩ := rep.tup_
      cases rw'
      obtain ⟨its2, r3, p3, _⟩ := I2.tuple t.sq
      have lens : its2.length = ys.length := by rw [← r3.length]; exact rw2.len
      have item : ∀ {k : Int} {z : PV}, atI ys k = some z → flatD z = true → ∃ kk uu, seqIndex? k its2.toArray.size = some kk ∧ its2.toArray[kk]? = some uu ∧ ∀ h', Reads h' uu (encD z) [] := fun {k z} hk fz => by
        obtain ⟨kk, q1, q2, _⟩ := atI_get hk
        obtain ⟨v', q3, q4⟩ := rw2.get q2
        obtain ⟨uu, q5, q6⟩ := r3.get q3
        refine ⟨kk, uu, by rw [List.size_toArray, lens]; exact q1, by simpa using q5, fun h' => flat_reads fz q4 q6⟩
      obtain ⟨ki, ui, i1, i2, i3⟩ := item ha fa
      obtain ⟨kj, uj, j1, j2, j3⟩ := item hb' fb
      refine lam_pair (c' := c') (items := its2.toArray) L ?_ (kp _ _ hf) ⟨c', oc, vs, tq, rfl, kp _ _ hoc, hdc, hvc⟩ (I2.nolimit.keeps kp) (hb _ _ _ _ _) (p3.keeps kp) ⟨bi.1, bi.2, i1, i2⟩ ⟨bj.1, bj.2, j1, j2⟩ hd fun h' tk' a' kp' ht' => ?_
      · show X.A.depth < recursionLimit
        omega
      · refine ⟨h', tk', rfl, kp', ?_⟩
        obtain ⟨o, ho, hc, n, hd'⟩ := ht'
        have e : keyP i j (.tup ys) = .tuple [encD a, encD b] := by unfold keyP; simp only [ha, hb']
        rw [e]
        exact Reads.tuple ho hc hd' (ReadsAll.cons (i3 h') (ReadsAll.cons (j3 h') ReadsAll.nil))
    · intro out cc h' tk kp hD ho eo
      obtain ⟨ys, r3, r4⟩ := val_each eo
      have fr : H2 (s2.heap.objs.size + 1) = none := I2.hok.fresh (Nat.le_succ _)
      refine ⟨.ref (s2.heap.objs.size + 1), upd H2 (s2.heap.objs.size + 1) (.lst ys), I2.laid (t' := tk) kp (Nat.le_succ _) ⟨?_, out, cc, r4, hD⟩, rfl, ?_⟩
      · rw [r3.len, List.length_mergeSort]; exact hz
      · exact kk _ η1 _ _ hP ((e1.trans g.ext).trans (.same (Same.new fr))) (R2.same (Same.new fr)) (rep_newL R2.trO fr r3)
  · exact h5
  · exact h6
  all_goals rfl
end
end Z
set_option Elab.async false
set_option linter.all false
set_option maxRecDepth 100000
namespace Z
open PySem PySem.Spec L2
open PyProof.Rows hiding St
/-! ### a, b = x, y: a new list may become an own one -/
inductive Ar where
  | v (x : PV) | f (xs : List PV)
abbrev TArp := EP' → (List Ar → EP' → Prop) → Prop
def ArOk (K : PySem.W.Frag) (O : Addr → Prop) (H : Hp) : List Ar → List V → Prop
  | [], vs => vs = []
  | .v x :: ars, vs => ∃ v us, vs = v :: us ∧ Rep K O H x v ∧ ArOk K O H ars us
  | .f xs :: ars, vs => ∃ a ws us, vs = .ref a :: us ∧ H a = some (.lst ws) ∧ Reps K O H xs ws ∧ ArOk K O H ars us
/-- the new ones' addresses: apart from each other and from F, nothing stood there -/
def ArNew (F : Addr → Prop) (H : Hp) : List Ar → List V → Prop
  | .v _ :: ars, _ :: us => ArNew F H ars us
  | .f _ :: ars, .ref a :: us => Nw H a ∧ ¬ F a ∧ ArNew (With F a) H ars us
  | [], [] => True
  | _, _ => False
def FA (F : Addr → Prop) : List Ar → List V → Addr → Prop
  | .v _ :: ars, _ :: us => FA F ars us
  | .f _ :: ars, .ref a :: us => FA (With F a) ars us
  | _, _ => F
theorem FA_sub {F : Addr → Prop} {a : Addr} : ∀ {ars : List Ar} {vs : List V}, F a → FA F ars vs a
  | [], [], h => h
  | [], _ :: _, h => h
  | .v _ :: ars, _ :: us, h => FA_sub (ars := ars) (vs := us) h
  | .v _ :: _, [], h => h
  | .f _ :: ars, .ref b :: us, h => FA_sub (ars := ars) (vs := us) (.inl h)
  | .f _ :: _, [], h => h
  | .f _ :: _, .non :: _, h => h
  | .f _ :: _, .bl _ :: _, h => h
  | .f _ :: _, .int _ :: _, h => h
  | .f _ :: _, .str _ :: _, h => h
  | .f _ :: _, .byt _ :: _, h => h
  | .f _ :: _, .flt _ :: _, h => h
  | .f _ :: _, .ty _ :: _, h => h
def upAr (K : PySem.W.Frag) (T : List (Addr × Str)) (tp : TArp) : TA := fun σ H Q => ∃ F η P, Rs K T F σ η H ∧ tp η P ∧ ∀ ars η' vs H', P ars η' → Ext σ η σ η' H H' → Rs K T (FA F ars vs) σ η' H' → ArNew F H ars vs → ArOk K (Oof (FA F ars vs) σ η') H' ars vs → Q vs H'
section
variable {K : PySem.W.Frag} {T : List (Addr × Str)} {F : Addr → Prop} {σ : St} {η : EP'} {H H' : Hp}
theorem ArOk.mono {O O' : Addr → Prop} (h : ∀ a, O' a → O a) : ∀ {ars : List Ar} {vs : List V}, ArOk K O H ars vs → ArOk K O' H ars vs
  | [], _, r => r
  | .v x :: ars, _, r => by
    obtain ⟨v, us, rfl, r1, r2⟩ := r
    exact ⟨v, us, rfl, r1.mono h, r2.mono h⟩
  | .f xs :: ars, _, r => by
    obtain ⟨a, ws, us, rfl, h1, r1, r2⟩ := r
    exact ⟨a, ws, us, rfl, h1, r1.mono h, r2.mono h⟩
theorem FA_with {a b : Addr} : ∀ {ars : List Ar} {vs : List V} {F : Addr → Prop}, FA (With F a) ars vs b ↔ FA F ars vs b ∨ b = a
  | [], [], F => Iff.rfl
  | [], _ :: _, F => Iff.rfl
  | .v _ :: ars, _ :: us, F => FA_with (ars := ars) (vs := us)
  | .v _ :: _, [], F => Iff.rfl
  | .f _ :: ars, .ref c :: us, F => by
    show FA (With (With F a) c) ars us b ↔ FA (With F c) ars us b ∨ b = a
    rw [FA_with, FA_with, FA_with]
    constructor
    · rintro ((h | h) | h)
      · exact .inl (.inl h)
      · exact .inr h
      · exact .inl (.inr h)
    · rintro ((h | h) | h)
      · exact .inl (.inl h)
      · exact .inr h
      · exact .inl (.inr h)
  | .f _ :: _, [], F => Iff.rfl
  | .f _ :: _, .non :: _, F => Iff.rfl
  | .f _ :: _, .bl _ :: _, F => Iff.rfl
  | .f _ :: _, .int _ :: _, F => Iff.rfl
  | .f _ :: _, .str _ :: _, F => Iff.rfl
  | .f _ :: _, .byt _ :: _, F => Iff.rfl
  | .f _ :: _, .flt _ :: _, F => Iff.rfl
  | .f _ :: _, .ty _ :: _, F => Iff.rfl
theorem ArNew.mono : ∀ {ars : List Ar} {vs : List V} {F F' : Addr → Prop}, (∀ a, F' a → F a) → ArNew F H ars vs → ArNew F' H ars vs
  | [], [], _, _, _, _ => trivial
  | [], _ :: _, _, _, _, h => h.elim
  | .v _ :: ars, _ :: us, _, _, m, h => ArNew.mono (ars := ars) (vs := us) m h
  | .v _ :: _, [], _, _, _, h => h.elim
  | .f _ :: ars, .ref c :: us, _, _, m, h => ⟨h.1, fun z => h.2.1 (m c z), ArNew.mono (ars := ars) (vs := us) (fun a z => z.elim (fun z => .inl (m a z)) .inr) h.2.2⟩
  | .f _ :: _, [], _, _, _, h => h.elim
  | .f _ :: _, .non :: _, _, _, _, h => h.elim
  | .f _ :: _, .bl _ :: _, _, _, _, h => h.elim
  | .f _ :: _, .int _ :: _, _, _, _, h => h.elim
  | .f _ :: _, .str _ :: _, _, _, _, h => h.elim
  | .f _ :: _, .byt _ :: _, _, _, _, h => h.elim
  | .f _ :: _, .flt _ :: _, _, _, _, h => h.elim
  | .f _ :: _, .ty _ :: _, _, _, _, h => h.elim
theorem FA_not {a : Addr} : ∀ {ars : List Ar} {vs : List V} {F : Addr → Prop}, ArNew (With F a) H ars vs → ¬ F a → ¬ FA F ars vs a
  | [], [], _, _, n, h => n h
  | [], _ :: _, _, h, _, _ => h.elim
  | .v _ :: ars, _ :: us, _, h, n, z => FA_not (ars := ars) (vs := us) h n z
  | .v _ :: _, [], _, h, _, _ => h.elim
  | .f _ :: ars, .ref c :: us, F, h, n, z => by
    have z' : FA (With F c) ars us a := z
    have hc : ¬ With F a c := h.2.1
    rcases FA_with.mp z' with z' | z'
    · exact FA_not (ars := ars) (vs := us) (F := F) (h.2.2.mono fun b q => .inl q) n z'
    · exact hc (.inr z'.symm)
  | .f _ :: _, [], _, h, _, _ => h.elim
  | .f _ :: _, .non :: _, _, h, _, _ => h.elim
  | .f _ :: _, .bl _ :: _, _, h, _, _ => h.elim
  | .f _ :: _, .int _ :: _, _, h, _, _ => h.elim
  | .f _ :: _, .str _ :: _, _, h, _, _ => h.elim
  | .f _ :: _, .byt _ :: _, _, h, _, _ => h.elim
  | .f _ :: _, .flt _ :: _, _, h, _, _ => h.elim
  | .f _ :: _, .ty _ :: _, _, h, _, _ => h.elim
def storesV : List Nat → List V → St → St
  | i :: is, v :: vs, σ => storesV is vs (σ.set i (some v))
  | _, _, σ => σ
def storesP : List Nat → List Ar → EP' → EP'
  | i :: is, .v x :: ars, η => storesP is ars (η.set i (.va x))
  | i :: is, .f xs :: ars, η => storesP is ars (η.set i (.ow (.l xs)))
  | _, _, η => η
def okIx (n : Nat) : List Nat → List Ar → Prop
  | i :: is, .v _ :: ars => okIx n is ars
  | i :: is, .f _ :: ars => 0 ≠ i ∧ i < n ∧ okIx n is ars
  | [], [] => True
  | _, _ => False
theorem stores_ok {σ0 : St} {η0 : EP'} {H0 : Hp} : ∀ {is : List Nat} {ars : List Ar} {vs : List V} {F : Addr → Prop} {σ : St} {η : EP'}, okIx η.length is ars → Rs K T (FA F ars vs) σ η H → Ext σ0 η0 σ η H0 H → ArNew F H0 ars vs → ArOk K (Oof (FA F ars vs) σ η) H ars vs →
    Rs K T F (storesV is vs σ) (storesP is ars η) H ∧ Ext σ0 η0 (storesV is vs σ) (storesP is ars η) H0 H
  | [], [], vs, F, σ, η, _, R, E, N, A => by
    have A' : vs = [] := A
    subst A'
    exact ⟨R, E⟩
  | i :: is, .v x :: ars, vs, F, σ, η, hi, R, E, N, A => by
    obtain ⟨v, us, rfl, r, A⟩ := A
    have R' : Rs K T (FA F ars us) σ η H := R
    have m : ∀ a, Oof (FA F ars us) (σ.set i (some v)) (η.set i (.va x)) a → Oof (FA F ars us) σ η a := Oof_mono fun b z => own_set z
    exact stores_ok (is := is) (ars := ars) (vs := us) (F := F) (by rw [List.length_set]; exact hi) (R'.setv r) (E.trans .setv) N (A.mono m)
  | i :: is, .f xs :: ars, vs, F, σ, η, hi, R, E, N, A => by
    obtain ⟨a, ws, us, rfl, ha, r, A⟩ := A
    obtain ⟨h0, hl, hi⟩ := hi
    obtain ⟨n1, n2, N⟩ := N
    have R0 : Rs K T (FA (With F a) ars us) σ η H := R
    have nf : ¬ FA F ars us a := FA_not N n2
    have R1 : Rs K T (With (FA F ars us) a) σ η H := R0.shrink fun b z => FA_with.mpr z
    have m0 : ∀ b, Oof (With (FA F ars us) a) σ η b → Oof (FA (With F a) ars us) σ η b := fun b z => z.elim (fun z => .inl (FA_with.mpr z)) .inr
    have R2 := R1.seto (i := i) (o := .l xs) nf ⟨ws, ha, r.mono m0⟩ hl
    have m1 : ∀ b, Oof (FA F ars us) (σ.set i (some (.ref a))) (η.set i (.ow (.l xs))) b → Oof (FA (With F a) ars us) σ η b := by
      rintro b (z | ⟨j, p, z1, z2⟩)
      · exact .inl (FA_with.mpr (.inl z))
      · by_cases hj : j = i
        · subst hj
          cases at_set z1
          exact .inl (FA_with.mpr (.inr rfl))
        · rw [ne_set hj] at z1 z2
          exact .inr ⟨j, p, z1, z2⟩
    exact stores_ok (is := is) (ars := ars) (vs := us) (F := F) (by rw [List.length_set]; exact hi) R2 (E.seto n1 h0) (N.mono fun b z => .inl z) (A.mono m1)
  | [], .v _ :: _, _, _, _, _, h, _, _, _, _ => h.elim
  | [], .f _ :: _, _, _, _, _, h, _, _, _, _ => h.elim
  | _ :: _, [], _, _, _, _, h, _, _, _, _ => h.elim
end
section
variable {X : Cx} {T : List (Addr × Str)} {e a b c : Expr} {es : List Expr} {te : TEp} {tf : TFp} {tr : TArp} {pos : Pos}
theorem ArOk.car {K : PySem.W.Frag} {O O' : Addr → Prop} {H H' : Hp} (c : Car O O' H H') : ∀ {ars : List Ar} {vs : List V}, (∀ xs a, Ar.f xs ∈ ars → V.ref a ∈ vs → True) → (∀ a ws, H a = some (.lst ws) → H' a = some (.lst ws)) → ArOk K O H ars vs → ArOk K O' H' ars vs
  | [], _, _, _, r => r
  | .v x :: ars, _, t, k, r => by
    obtain ⟨v, us, rfl, r1, r2⟩ := r
    exact ⟨v, us, rfl, r1.car c, ArOk.car c (fun _ _ _ _ => trivial) k r2⟩
  | .f xs :: ars, _, t, k, r => by
    obtain ⟨a, ws, us, rfl, h1, r1, r2⟩ := r
    exact ⟨a, ws, us, rfl, k _ _ h1, r1.car c, ArOk.car c (fun _ _ _ _ => trivial) k r2⟩
def tNilAr : TArp := fun η P => P [] η
def tConsV (te : TEp) (t : TArp) : TArp := fun η P => te η fun x η1 => t η1 fun ars η2 => P (.v x :: ars) η2
def tConsF (tf : TFp) (t : TArp) : TArp := fun η P => tf η fun xs η1 => t η1 fun ars η2 => P (.f xs :: ars) η2
theorem zr_nil : PA X [] (upAr X.K T tNilAr) := by
  refine PA.weak pa_nil fun σ H Q q => ?_
  obtain ⟨F, η, P, R, h, k⟩ := q
  exact k [] η [] H h .refl R trivial rfl
theorem new_back {F : Addr → Prop} {σ : St} {η η1 : EP'} {H H1 : Hp} (e : Ext σ η σ η1 H H1) : ∀ {ars : List Ar} {vs : List V} {F : Addr → Prop}, ArNew F H1 ars vs → ArNew F H ars vs
  | [], [], _, _ => trivial
  | [], _ :: _, _, h => h.elim
  | .v _ :: ars, _ :: us, _, h => new_back e (F := F) (ars := ars) (vs := us) h
  | .v _ :: _, [], _, h => h.elim
  | .f _ :: ars, .ref c :: us, _, h => ⟨e.nw h.1, h.2.1, new_back e (F := F) (ars := ars) (vs := us) h.2.2⟩
  | .f _ :: _, [], _, h => h.elim
  | .f _ :: _, .non :: _, _, h => h.elim
  | .f _ :: _, .bl _ :: _, _, h => h.elim
  | .f _ :: _, .int _ :: _, _, h => h.elim
  | .f _ :: _, .str _ :: _, _, h => h.elim
  | .f _ :: _, .byt _ :: _, _, h => h.elim
  | .f _ :: _, .flt _ :: _, _, h => h.elim
  | .f _ :: _, .ty _ :: _, _, h => h.elim
theorem car_FA {F G : Addr → Prop} {σ : St} {η η1 : EP'} {H H1 : Hp} (e : Ext σ η σ η1 H H1) (hn : ∀ b, G b → F b ∨ Nw H b) : Car (Oof F σ η) (Oof G σ η1) H H1 := fun a o n h t => by
  obtain ⟨k, n'⟩ := e.car (F := F) a o n h t
  refine ⟨k, fun z => ?_⟩
  rcases z with z | z
  · rcases hn a z with z | z
    · exact n (.inl z)
    · exact z.no h t
  · exact n' (.inr z)
theorem FA_new {H : Hp} : ∀ {ars : List Ar} {vs : List V} {F : Addr → Prop} {b : Addr}, ArNew F H ars vs → FA F ars vs b → F b ∨ Nw H b
  | [], [], _, _, _, h => .inl h
  | [], _ :: _, _, _, h, _ => h.elim
  | .v _ :: ars, _ :: us, _, _, h, z => FA_new (ars := ars) (vs := us) h z
  | .v _ :: _, [], _, _, h, _ => h.elim
  | .f _ :: ars, .ref c :: us, F, b, h, z => by
    rcases FA_new (ars := ars) (vs := us) (F := With F c) h.2.2 z with (q | q) | q
    · exact .inl q
    · rw [q]; exact .inr h.1
    · exact .inr q
  | .f _ :: _, [], _, _, h, _ => h.elim
  | .f _ :: _, .non :: _, _, _, h, _ => h.elim
  | .f _ :: _, .bl _ :: _, _, _, h, _ => h.elim
  | .f _ :: _, .int _ :: _, _, _, h, _ => h.elim
  | .f _ :: _, .str _ :: _, _, _, h, _ => h.elim
  | .f _ :: _, .byt _ :: _, _, _, h, _ => h.elim
  | .f _ :: _, .flt _ :: _, _, _, h, _ => h.elim
  | .f _ :: _, .ty _ :: _, _, _, h, _ => h.elim
theorem zr_v (he : PE X e (up X.K T te)) (hr : PA X es (upAr X.K T tr)) (hs : starEach (e :: es) X.env = (false, eval e X.env) :: starEach es X.env := by rfl) : PA X (e :: es) (upAr X.K T (tConsV te tr)) := by
  refine PA.weak (pa_cons he hr hs) fun σ H Q q => ?_
  obtain ⟨F, η, P, R, h, k⟩ := q
  refine ⟨F, η, _, R, h, fun x η1 v H1 h1 e1 R1 r1 => ⟨F, η1, _, R1, h1, fun ars η2 vs H2 h2 e2 R2 N2 A2 => ?_⟩⟩
  exact k (.v x :: ars) η2 (v :: vs) H2 h2 (e1.trans e2) R2 (show ArNew F H ars vs from new_back (F := F) e1 N2) ⟨v, vs, rfl, r1.car (car_FA e2 fun b z => FA_new N2 z), A2⟩
theorem zr_f (he : PE X e (upF X.K T tf)) (hr : PA X es (upAr X.K T tr)) (hs : starEach (e :: es) X.env = (false, eval e X.env) :: starEach es X.env := by rfl) : PA X (e :: es) (upAr X.K T (tConsF tf tr)) := by
  refine PA.weak (pa_cons he hr hs) fun σ H Q q => ?_
  obtain ⟨F, η, P, R, h, k⟩ := q
  refine ⟨F, η, _, R, h, fun xs η1 a ws H1 h1 e1 R1 hn nf hv r1 => ⟨With F a, η1, _, R1, h1, fun ars η2 vs H2 h2 e2 R2 N2 A2 => ?_⟩⟩
  have na : ¬ IsOwn σ η1 a := fun z => by
    obtain ⟨j, p, z1, z2⟩ := z
    obtain ⟨b, q1, q2, q3⟩ := R1.ow j p z2
    rw [z1] at q1; cases q1
    exact q3 (.inr rfl)
  exact k (.f xs :: ars) η2 (.ref a :: vs) H2 h2 (e1.trans e2) R2 ⟨hn, nf, new_back (F := F) e1 N2⟩ ⟨a, ws, vs, rfl, e2.keep a _ hv na nofun, r1.car (car_FA e2 fun b z => FA_new N2 z), A2⟩
def tParP (is : List Nat) (tr : TArp) : TSp := fun D η => tr η fun ars η1 => ars.length = is.length ∧ okIx η1.length is ars ∧ D.nx (storesP is ars η1)
theorem ArOk.len {K : PySem.W.Frag} {O H} : ∀ {ars : List Ar} {vs : List V}, ArOk K O H ars vs → vs.length = ars.length
  | [], _, r => by
    have r' : _ = [] := r
    rw [r']; rfl
  | .v x :: ars, _, r => by
    obtain ⟨v, us, rfl, r1, r2⟩ := r
    simp [r2.len]
  | .f xs :: ars, _, r => by
    obtain ⟨a, ws, us, rfl, h1, r1, r2⟩ := r
    simp [r2.len]
theorem par_up {K : PySem.W.Frag} {is : List Nat} {D : Ends} {σ : St} {H : Hp} (q : upS K T (tParP is tr) D σ H) : upAr K T tr σ H (fun vs H1 => vs.length = is.length ∧ D.nx (storesV is vs σ) H1) := by
  obtain ⟨F, η, D', R, h, k1, k2, k3, k4⟩ := q
  refine ⟨F, η, _, R, h, fun ars η1 vs H1 h1 e1 R1 N A => ⟨by rw [A.len]; exact h1.1, ?_⟩⟩
  obtain ⟨R2, E2⟩ := stores_ok (is := is) h1.2.1 R1 e1 N A
  exact k1 _ _ _ h1.2.2 E2 R2
theorem z_par2 {i j : Nat} {st : Stmt} {K0 : PySem.W.Frag} (hK : X.K = K0) (pf : PS X st (tPar i j (upAr K0 T tr))) : PS X st (upS K0 T (tParP [i, j] tr)) := by
  refine PS.weak pf fun D σ H q => ?_
  obtain ⟨F, η, P, R, h, k⟩ := par_up q
  refine ⟨F, η, P, R, h, fun ars η' vs H' h1 e1 R1 N A => ?_⟩
  obtain ⟨hl, hd⟩ := k ars η' vs H' h1 e1 R1 N A
  match vs, hl, hd with
  | [v, w], _, hd => exact ⟨v, w, rfl, hd⟩
theorem z_par3 {i j l : Nat} {st : Stmt} {K0 : PySem.W.Frag} (hK : X.K = K0) (pf : PS X st (tPar3 i j l (upAr K0 T tr))) : PS X st (upS K0 T (tParP [i, j, l] tr)) := by
  refine PS.weak pf fun D σ H q => ?_
  obtain ⟨F, η, P, R, h, k⟩ := par_up q
  refine ⟨F, η, P, R, h, fun ars η' vs H' h1 e1 R1 N A => ?_⟩
  obtain ⟨hl, hd⟩ := k ars η' vs H' h1 e1 R1 N A
  match vs, hl, hd with
  | [u, v, w], _, hd => exact ⟨u, v, w, rfl, hd⟩
end
end Z
set_option Elab.async false
set_option linter.all false
set_option maxRecDepth 100000
namespace Z
open PySem PySem.Spec L2
open PyProof.Rows hiding St
section
variable {X : Cx} {T : List (Addr × Str)} {a b e o : Expr} {es : List Expr} {te ta tb : TEp} {t : TAp} {tf : TFp} {pos p apos : Pos} {x : Str}
theorem z_gi {i : Int} (hg : Gl X x) (h : ∃ u, X.mg x = some u ∧ RelV (.int i) u) (hd : (x == ("__debug__" : Str)) = false := by decide) : PE X (.Name x pos) (up X.K T (tConP (.int i))) := by
  obtain ⟨u, hm, r⟩ := h
  exact z_con (pe_glob hg hm r hd) fun _ _ => by unfold Rep; rfl
theorem z_gs {i : Str} (hg : Gl X x) (h : ∃ u, X.mg x = some u ∧ RelV (.str i) u) (hd : (x == ("__debug__" : Str)) = false := by decide) : PE X (.Name x pos) (up X.K T (tConP (.str i))) := by
  obtain ⟨u, hm, r⟩ := h
  exact z_con (pe_glob hg hm r hd) fun _ _ => by unfold Rep; rfl
theorem z_gc {C : Addr} (hg : Gl X x) (hm : X.mg x = some (.ref C)) (hd : (x == ("__debug__" : Str)) = false := by decide) : PE X (.Name x pos) (up X.K T (tConP (.raw (.ref C)))) := z_con (pe_glob (v := .ref C) hg hm rfl hd) fun _ _ => by unfold Rep; rfl
theorem z_ty {id : String} (hg : Gl X x) (hm : X.mg x = none) (hv : bootBuiltins x = some (.type id)) (hn : x ≠ "__name__" := by decide) (hd : (x == ("__debug__" : Str)) = false := by decide) : PE X (.Name x pos) (up X.K T (tConP (.raw (.ty id)))) := z_con (pe_bltn (v := .ty id) hg hm hv rfl hn hd) fun _ _ => by unfold Rep; rfl
def tNegP (te : TEp) : TEp := fun η P => te η fun x η1 => match x with | .int i => P (.int (-i)) η1 | _ => False
theorem z_neg (h : PE X e (up X.K T te)) : PE X (.UnaryOp .USub e pos) (up X.K T (tNegP te)) := by
  refine PE.weak (pe_un un_neg h) fun σ H Q q => ?_
  obtain ⟨F, η, P, R, h, k⟩ := q
  refine ⟨F, η, _, R, h, fun x η1 v H1 h1 e1 R1 r1 => ?_⟩
  split at h1
  · exact ⟨_, r1.int_, k _ _ _ _ h1 e1 R1 rep_int⟩
  · cases h1
theorem zgs_cons1 {t : TGp} {u : TGsp} (h1 : PG X e (upG X.K T t)) (h2 : PGs X es (upGs X.K T u)) (hs : (assignEach (e :: es) X.env).map (·.2) = assign e X.env :: (assignEach es X.env).map (·.2) := by rfl) : PGs X (e :: es) (upGs X.K T (gConsP t u)) := zgs_cons h1 h2 (pgs_cons h1 h2 hs)
theorem z_chain1 {c : Expr} {tc : TEp} {op op' : CmpOp} {r r' : R2p} (ho : OpR X (compareOp op) (r2 X.K r)) (ho' : OpR X (compareOp op') (r2 X.K r')) (ha : PE X a (up X.K T ta)) (hb : PE X b (up X.K T tb)) (hc : PE X c (up X.K T tc))
    (hm : lastMarks [op, op'] [b, c] = false := by with_unfolding_all rfl) : PE X (.Compare a [op, op'] [b, c] pos) (up X.K T (tChainP r r' ta tb tc)) := z_chain ho ho' ha hb hc (pe_chain ho ho' ha hb hc hm)
theorem zt_chain {c : Expr} {tc : TEp} {op op' : CmpOp} {r r' : R2p} (ho : OpR X (compareOp op) (r2 X.K r)) (ho' : OpR X (compareOp op') (r2 X.K r')) (ha : PE X a (up X.K T ta)) (hb : PE X b (up X.K T tb)) (hc : PE X c (up X.K T tc))
    (hm : lastMarks [op, op'] [b, c] = false := by with_unfolding_all rfl) : PT X (.Compare a [op, op'] [b, c] pos) (upB X.K T (tBlP (tChainP r r' ta tb tc))) := by
  refine PT.weak (pt_chain ho ho' ha hb hc hm) fun σ H Q q => ?_
  obtain ⟨F, η, P, R, h, k⟩ := q
  refine ⟨F, η, _, R, h, fun x η1 v H1 h1 e1 R1 r1' => ⟨F, η1, _, R1, h1, fun y η2 w H2 h2 e2 R2' rw' => ?_⟩⟩
  refine ⟨Oof F σ η2, x, y, _, R2'.trO, r1'.car e2.car, rw', h2, fun z u H3 pz s rz => ?_⟩
  obtain ⟨kk, rfl, pz⟩ := pz
  unfold Rep at rz
  refine ⟨kk, rz, ?_⟩
  cases kk with
  | false => exact ⟨_, rfl, k _ η2 H3 pz ((e1.trans e2).trans (.same s)) (R2'.same s)⟩
  | true =>
    simp only [if_true] at pz ⊢
    refine ⟨F, η2, _, R2'.same s, pz, fun z' η3 u' H4 h4 e4 R4 r4 => ?_⟩
    refine ⟨Oof F σ η3, y, z', _, R4.trO, (rw'.car (Car.same s)).car e4.car, r4, h4, fun z2 u2 H5 p5 s5 r5 => ?_⟩
    split at p5
    · unfold Rep at r5
      exact ⟨_, r5, k _ η3 H5 p5 ((((e1.trans e2).trans (.same s)).trans e4).trans (.same s5)) (R4.same s5)⟩
    · cases p5
theorem zi_enum1 {p pos tpos : Pos} {elts : List Expr} {kk : Nat} (hg : Gl X "enumerate") (hm : X.mg "enumerate" = none) (he : PE X e (up X.K T te)) (hs : starEach [e] X.env = [(false, eval e X.env)] := by rfl) :
    PI X (.Tuple elts kk tpos) (.Call (.Name "enumerate" p) [e] [] pos) (upI X.K T (iEnumP te)) := zi_enumT hg hm he hs
def rMulA : R2p := fun x y P => rMul x y P ∨ rMulS x y P
theorem zo_mulA : OpR X (binaryOp .Mult) (r2 X.K rMulA) := by
  intro pins s σ H x y v u Q I rx ry q
  obtain ⟨O, px, py, P, tr, h1, h2, h, k⟩ := q
  rcases h with h | h
  · exact zo_mul pins s σ H x y v u Q I rx ry ⟨O, px, py, P, tr, h1, h2, h, k⟩
  · exact zo_mulS pins s σ H x y v u Q I rx ry ⟨O, px, py, P, tr, h1, h2, h, k⟩
end
end Z
set_option Elab.async false
set_option linter.all false
set_option maxRecDepth 100000
namespace Z
open PySem PySem.Spec L2
open PyProof.Rows hiding St
/-- a def with its defaults and its code object -/
structure FunX (K : PySem.W.Frag) (x qual : Str) (st : Stmt) (dvs : List V) (c f : Addr) (fd : FuncData) : Prop where
  ex : ∃ (oc : Value) (od : Option Addr) (dV kV doc pm : Value) (an : Option Addr) (ct : Value) (osl : Array (Option Value)),
    fd = PySem.W.fnOf x qual (defArgs st) (defBody st) (defScope st) dV kV doc pm an (.ref c) ct ∧ K.lookup f = some ⟨oc, od, .func fd, osl⟩ ∧ PySem.W.codeIn K (.ref c) qual = true ∧ DflV K dV dvs
  kp : PySem.W.keepIn K (.ref f) = true
section
variable {P : Program} {w : World} {K : PySem.W.Frag} {mg : Str → Option Value} {base : Heap} {T : List (Addr × Str)} {x qual : Str} {st : Stmt} {f c : Addr} {fd : FuncData} {dvs : List V} {ps : List Str}
theorem FunX.d (F : FunX K x qual st dvs c f fd) : FunD K x qual (defArgs st) (defBody st) (defScope st) dvs [] f fd := by
  obtain ⟨oc, od, dV, kV, doc, pm, an, ct, osl, h1, h2, h3, h4⟩ := F.ex
  exact ⟨⟨oc, od, dV, kV, doc, pm, an, .ref c, ct, osl, h1, h2, h3, h4, .inl rfl⟩, F.kp⟩
theorem okRX {nm : Str} {N : List Str} {k : Nat} {sp : SpR} (F : FunX K x qual st dvs c f fd) (S : FnScope (nm :: N) (nm :: ps) (defScope st)) (hl : ∀ o args P, sp o args P → args.length = ps.length) (hn : ps.length ≤ N.length)
    (hbody : ∀ (A : Around) (outer : List Env) (s : Shared) (H : Hp) (E : XK), Room k (A.deeper (envOfC qual (defScope st) s.heap.objs.size f (.ref c))) →
      ∃ ts, PSs (cxOf CX0 P w K mg base (nm :: N) qual (defScope st) f (.ref c) A outer s H E).nox (defBody st) (upS K T ts) ∧
        ∀ o args P, sp o args P → ts { nx := fun η' => ∃ o', η'[0]? = some (Sl.ow o') ∧ P .non o', rt := fun x η' => ∃ o', η'[0]? = some (Sl.ow o') ∧ P x o' } (startR (N.length + 1) o args)) :
    FnOk P w K mg base CX0 (k + 1) f fd (nm :: ps) (upSpR K T sp) := by
  obtain ⟨oc, od, dV, kV, doc, pm, an, ct, osl, rfl, lk, hcd, _⟩ := F.ex
  refine fn_of lk hcd S (len_spR hl) fun A outer s H vs Q E hr h => ?_
  obtain ⟨ts, d, rd⟩ := hbody A outer s H E hr
  exact ⟨_, d.nox, body_spR h (fun o args P hs => by rw [hl _ _ _ hs]; exact hn) rd⟩
theorem FunX.b0 (F : FunX K x qual st dvs c f fd) (hd : dvs ≠ [])
    (h : ∀ (T : Addr) (kV doc pm : Value) (an : Option Addr) (cdv ct : Value) (us its : List Value), us.length = ps.length → its.length = dvs.length →
      ∃ k, bindArgs (PySem.W.fnOf x qual (defArgs st) (defBody st) (defScope st) (.ref T) kV doc pm an cdv ct) ⟨us, []⟩ = seqItems? (.ref T) >>= k ∧ k (some its.toArray) = pure (ps.zip (us ++ its.drop dvs.length))) : Binds K fd ps [] := by
  obtain ⟨ds, h1, h2⟩ := F.d.binds1 (ps := ps) ps.length dvs.length hd (by omega) h
  rw [List.drop_length] at h1
  cases ds with
  | nil => exact h2
  | cons => exact (nomatch h1)
end
end Z
set_option Elab.async false
set_option linter.all false
set_option maxRecDepth 100000
namespace Z
open PySem PySem.Spec L2 ClX
open PyProof.Rows hiding St
/-! ### static methods -/
structure SMet (K : PySem.W.Frag) (C : Addr) (mc : Value) (m : Str) (p g : Addr) : Prop where
  at_ : PySem.W.findCls K (.ref C) mc m = some (.get (.builtin "staticmethod.__get__") (.ref p) .none (.ref C))
  rc : ∃ rest, PySem.W.recIn K p "staticmethod" = some (.ref g :: rest)
  kp : PySem.W.keepIn K (.ref g) = true
structure SInst (K : PySem.W.Frag) (C : Addr) (m : Str) (p g : Addr) : Prop where
  pg : PySem.W.plainGet K C Str.empty = true
  ic : PySem.W.isClsIn K C = true
  at_ : PySem.W.findIn K (.ref C) m = some (some (.ref p))
  ty : PySem.W.typeIn K (.ref p) = some (.type "staticmethod")
  get : PySem.W.specialIn K (.ref p) "__get__" = some (some (.builtin "staticmethod.__get__"))
  tk : PySem.W.takesIn K (.ref p) = some false
  cp : PySem.W.copiedNames.contains m = false
  rc : ∃ rest, PySem.W.recIn K p "staticmethod" = some (.ref g :: rest)
  kp : PySem.W.keepIn K (.ref g) = true
theorem SInst.get' {K : PySem.W.Frag} {C : Addr} {m : Str} {p g : Addr} (k : SInst K C m p g) : PySem.W.plainGet K C m = true := k.pg
section
variable {X : Cx} {pins : List (Addr × Obj)} {σ : L2.St} {H : Hp} {s : Shared} {a C p g : Addr} {mc : Value} {m : Str} {A : Around} {E : Value → Shared → Prop}
theorem getsm_ok {pl : Sem Bool} {Q : Value × List Value → Shared → Prop} (I : Inv X pins σ H s) (r : CRead X.K C mc) (k : SMet X.K C mc m p g) (h : ∀ s', Inv X pins σ H s' → Q (.ref g, []) s') : wpAny (model X.prog X.w) A (getMethod (.ref C) m pl) Q E s := by
  obtain ⟨rest, hp⟩ := k.rc
  refine PySem.W.method_cls I.kIn r.ga (PySem.W.cls_bind I.kIn r.rd k.at_ ?_)
  refine wpAny_call (PySem.W.sm_get (s := { s with toks := s.toks + 1 }) I.kIn hp (PySem.W.handed_on rfl ?_))
  exact h _ (I.tok _)
theorem getsmi_ok {pl : Sem Bool} {ox od : Obj} {Q : Value × List Value → Shared → Prop} (I : Inv X pins σ H s) (J : PySem.W.InstAt s.heap a ox C (some od)) (hl : PySem.W.lookIn m od = some none) (k : SInst X.K C m p g)
    (h : ∀ s', Inv X pins σ H s' → Q (.ref g, []) s') : wpAny (model X.prog X.w) A (getMethod (.ref a) m pl) Q E s := by
  obtain ⟨rest, hp⟩ := k.rc
  refine PySem.W.method_usual (r := some (.ref p)) I.kIn J (PySem.W.plainGet_of k.get').1 (PySem.W.plainGet_of k.get').2 k.at_ ?_ ?_
  · show ((PySem.W.typeIn X.K (.ref p)).any fun t => t != .type "function" && t != .type "method_descriptor" && t != .type "wrapper_descriptor") = true
    rw [k.ty]
    first
    | rfl
    | decide +kernel
  · refine PySem.W.get_bind I.kIn J (PySem.W.plainGet_of k.get').1 (find_cm k.ic k.at_ k.get k.tk k.cp hl) (PySem.W.plainGet_of k.get').2 ?_
    refine wpAny_call (PySem.W.sm_get (s := { s with toks := s.toks + 1 }) I.kIn hp (PySem.W.handed_on rfl ?_))
    exact h _ (I.tok _)
end
/-- C.m(..), o.m(..) -/
def tSMeth (C : Addr) (sp : Sp) (E : XK) (ta : TE) (t : TA) : TE := fun σ H Q => ta σ H fun x H1 => x = .ref C ∧ t σ H1 fun vs H2 => sp vs H2 Q E
def tSMethD (C : Addr) (m : Str) (sp : Sp) (E : XK) (ta : TE) (t : TA) : TE := fun σ H Q => ta σ H fun x H1 => ∃ a dx fs, x = .ref a ∧ H1 a = some (.ins C dx fs) ∧ fs.lookup m = none ∧ t σ H1 fun vs H2 => sp vs H2 Q E
section
variable {X : Cx} {CX : CXT} {k : Nat} {C p g : Addr} {mc : Value} {sp : Sp} {E : XK} {o e : Expr} {es : List Expr} {m : Str} {pos apos : Pos} {ta : TE} {t tk : TA} {pl : Sem Bool} {fd : FuncData} {ps ks : List Str} {kws : List Keyword}
theorem pe_smeth (he : PE X o ta) (r : CRead X.K C mc) (c : SMet X.K C mc m p g) (F : FnOk X.prog X.w X.K X.mg X.base CX k g fd ps sp) (hr : Room k X.A) (hb : Binds X.K fd ps []) (hx : Passes CX X E) (ha : PA X (e :: es) t)
    (hst : starEach (e :: es) X.env = (false, eval e X.env) :: starEach es X.env := by rfl) (hpl : (backTo pos (starEach es X.env)).any (·.1) = false := by rfl)
    (ht : eval (.Call (.Attribute o m apos) (e :: es) [] pos) X.env = (do
      let ov ← eval o X.env
      standAt apos.atName
      let (f, first) ← holding [ov] (getMethod ov m pl)
      callWith pos f first (backTo pos (starEach (e :: es) X.env)) (backToKw pos (keywordEach [] X.env))) := by rfl) :
    PE X (.Call (.Attribute o m apos) (e :: es) [] pos) (tSMeth C sp E ta t) := by
  refine ⟨fun pins s σ H Q I h => ?_⟩
  refine PySem.W.methodCall_KW (pl := pl) (thn (he.run pins s σ H _ I h) fun u s1 ⟨x, H1, I1, rx, ex, q⟩ => ?_) ht
  subst ex
  obtain rfl : u = Value.ref C := rx
  refine getsm_ok I1 r c fun s2 I2 => ?_
  refine PySem.W.callWith_K (h₀ := X.base) (first := []) I2.ok.mod.kin c.kp (thn (ha.run pos _ s2 σ H1 _ I2 q) fun us s3 ⟨vs, H2, I3, rv, q2⟩ => ⟨I3.kIn, ?_⟩) hst hpl
  exact run_fn (ds := []) (dvs := []) F hr hb .nil hx I3 rv (by rw [List.append_nil]; exact q2)
theorem pe_smethD (he : PE X o ta) (c : SInst X.K C m p g) (F : FnOk X.prog X.w X.K X.mg X.base CX k g fd ps sp) (hr : Room k X.A) (hb : Binds X.K fd ps []) (hx : Passes CX X E) (ha : PA X (e :: es) t)
    (hst : starEach (e :: es) X.env = (false, eval e X.env) :: starEach es X.env := by rfl) (hpl : (backTo pos (starEach es X.env)).any (·.1) = false := by rfl)
    (ht : eval (.Call (.Attribute o m apos) (e :: es) [] pos) X.env = (do
      let ov ← eval o X.env
      standAt apos.atName
      let (f, first) ← holding [ov] (getMethod ov m pl)
      callWith pos f first (backTo pos (starEach (e :: es) X.env)) (backToKw pos (keywordEach [] X.env))) := by rfl) :
    PE X (.Call (.Attribute o m apos) (e :: es) [] pos) (tSMethD C m sp E ta t) := by
  refine ⟨fun pins s σ H Q I h => ?_⟩
  refine PySem.W.methodCall_KW (pl := pl) (thn (he.run pins s σ H _ I h) fun u s1 ⟨x, H1, I1, rx, a, dx, fs, ex, ea, l, q⟩ => ?_) ht
  subst ex
  obtain rfl : u = Value.ref a := rx
  obtain ⟨mA, O, rr, _, _, _⟩ := ins_get I1.hok ea
  have hn : mA m = none := RelO.none_of (by rw [← l]; exact rr m)
  obtain ⟨od, J, hl⟩ := O.look
  refine getsmi_ok I1 J (by rw [hl m, hn]) c fun s2 I2 => ?_
  refine PySem.W.callWith_K (h₀ := X.base) (first := []) I2.ok.mod.kin c.kp (thn (ha.run pos _ s2 σ H1 _ I2 q) fun us s3 ⟨vs, H2, I3, rv, q2⟩ => ⟨I3.kIn, ?_⟩) hst hpl
  exact run_fn (ds := []) (dvs := []) F hr hb .nil hx I3 rv (by rw [List.append_nil]; exact q2)
def tSMethK (C : Addr) (sp : Sp) (E : XK) (ta : TE) (tk : TA) : TE := fun σ H Q => ta σ H fun x H1 => x = .ref C ∧ tk σ H1 fun zs H2 => sp zs H2 Q E
theorem pe_smethK (he : PE X o ta) (r : CRead X.K C mc) (c : SMet X.K C mc m p g) (F : FnOk X.prog X.w X.K X.mg X.base CX k g fd ps sp) (hr : Room k X.A) (hb : KBinds X.K fd ps ks (fun us ws => us ++ ws) (fun vs zs => vs ++ zs)) (hx : Passes CX X E) (hkw : PK X kws tk)
    (hall : (backToKw pos (keywordEach kws X.env)).all (·.1.isSome) = true := by rfl) (hks : (backToKw pos (keywordEach kws X.env)).filterMap (·.1) = ks := by rfl)
    (hpl : ((backTo pos (starEach [] X.env)).any (·.1) || (backToKw pos (keywordEach kws X.env)).any (·.1.isNone)) = false := by rfl)
    (ht : eval (.Call (.Attribute o m apos) [] kws pos) X.env = (do
      let ov ← eval o X.env
      standAt apos.atName
      let (f, first) ← holding [ov] (getMethod ov m pl)
      callWith pos f first (backTo pos (starEach [] X.env)) (backToKw pos (keywordEach kws X.env))) := by rfl) :
    PE X (.Call (.Attribute o m apos) [] kws pos) (tSMethK C sp E ta tk) := by
  refine ⟨fun pins s σ H Q I h => ?_⟩
  refine PySem.W.methodCall_KW (pl := pl) (thn (he.run pins s σ H _ I h) fun u s1 ⟨x, H1, I1, rx, ex, q⟩ => ?_) ht
  subst ex
  obtain rfl : u = Value.ref C := rx
  refine getsm_ok I1 r c fun s2 I2 => ?_
  refine PySem.W.callWith_KW0 (h₀ := X.base) (first := []) I2.ok.mod.kin c.kp hall (thn (hkw.run pos pins s2 σ H1 _ I2 q) fun ws s3 ⟨zs, H2, I3, rz, q2⟩ => ⟨I3.kIn, ?_⟩) hpl
  rw [hks]
  exact run_fnk (us := []) (vs := []) F hr hb hx I3 .nil rz q2
end
/-! over plain values -/
section
variable {X : Cx} {T : List (Addr × Str)} {k : Nat} {C p g : Addr} {mc : Value} {sp : SpP} {o e : Expr} {es : List Expr} {m : Str} {pos apos kpos : Pos} {te ta : TEp} {t : TAp} {fd : FuncData} {ps ks : List Str} {kws : List Keyword} {nm : Option Str}
theorem PK.weak {kws : List Keyword} {t t' : TA} (h : PK X kws t) (w : ∀ σ H Q, t' σ H Q → t σ H Q) : PK X kws t' := ⟨fun pos pins s σ H Q I q => h.run pos pins s σ H Q I (w _ _ _ q)⟩
theorem zk_nil : PK X [] (upA X.K T tNilP) := by
  refine PK.weak pk_nil fun σ H Q q => ?_
  obtain ⟨F, η, P, R, h, k⟩ := q
  exact k [] η [] H h .refl R .nil
theorem zk_cons (ha : PE X e (up X.K T te)) (hr : PK X kws (upA X.K T t)) : PK X (⟨nm, e, kpos⟩ :: kws) (upA X.K T (tConsP te t)) := by
  refine PK.weak (pk_cons ha hr) fun σ H Q q => ?_
  obtain ⟨F, η, P, R, h, k⟩ := q
  refine ⟨F, η, _, R, h, fun x η1 v H1 h1 e1 R1 r1' => ⟨F, η1, _, R1, h1, fun y η2 w H2 h2 e2 R2' rw' => ?_⟩⟩
  exact k (x :: y) η2 (v :: w) H2 h2 (e1.trans e2) R2' (.cons (r1'.car e2.car) rw')
def tSMP (C : Addr) (sp : SpP) (ta : TEp) (t : TAp) : TEp := fun η P => ta η fun x η1 => x = .raw (.ref C) ∧ t η1 fun args η2 => sp args fun z => P z η2
def tSMDP (C : Addr) (m : Str) (sp : SpP) (ta : TEp) (t : TAp) : TEp := fun η P => ta η fun x η1 => (∃ fs, x = .ins C fs ∧ fs.lookup m = none) ∧ t η1 fun args η2 => sp args fun z => P z η2
theorem sm_up {K : PySem.W.Frag} {σ : St} {H : Hp} {Q : VK} {E : XK} (q : up K T (tSMP C sp ta t) σ H Q) : tSMeth C (upSp K T sp) E (up K T ta) (upA K T t) σ H Q := by
  obtain ⟨F, η, P, R, h, k⟩ := q
  refine ⟨F, η, _, R, h, fun x η1 v H1 h1 e1 R1 r1 => ?_⟩
  obtain ⟨rfl, h1⟩ := h1
  refine ⟨r1.raw_, F, η1, _, R1, h1, fun args η2 vs H2 h2 e2 R2 r2 => ?_⟩
  exact ⟨Oof F σ η2, args, _, R2.trO, R2.tb, r2, h2, fun z v H3 pz g tb rz => k z η2 v H3 pz ((e1.trans e2).trans g.ext) (R2.gr g tb) rz⟩
theorem z_sm (ho : PE X o (up X.K T ta)) (r : CRead X.K C mc) (c : SMet X.K C mc m p g) (F : FnOk X.prog X.w X.K X.mg X.base CX0 k g fd ps (upSp X.K T sp)) (hr : Room k X.A) (hb : Binds X.K fd ps [])
    (pf : PE X e (tSMeth C (upSp X.K T sp) E0 (up X.K T ta) (upA X.K T t))) : PE X e (up X.K T (tSMP C sp ta t)) := PE.weak pf fun σ H Q q => sm_up q
theorem z_smK (pf : PE X e (tSMethK C (upSp X.K T sp) E0 (up X.K T ta) (upA X.K T t))) : PE X e (up X.K T (tSMP C sp ta t)) := PE.weak pf fun σ H Q q => sm_up q
theorem z_smD (pf : PE X e (tSMethD C m (upSp X.K T sp) E0 (up X.K T ta) (upA X.K T t))) : PE X e (up X.K T (tSMDP C m sp ta t)) := PE.weak pf fun σ H Q q => by
  obtain ⟨F, η, P, R, h, k⟩ := q
  refine ⟨F, η, _, R, h, fun x η1 v H1 h1 e1 R1 r1 => ?_⟩
  obtain ⟨⟨fs, rfl, hm⟩, h1⟩ := h1
  obtain ⟨a, dx, ws, rfl, na, q, rr⟩ := r1.ins_
  refine ⟨a, dx, ws, rfl, q, (rr.look m).2 hm, F, η1, _, R1, h1, fun args η2 vs H2 h2 e2 R2 r2 => ?_⟩
  exact ⟨Oof F σ η2, args, _, R2.trO, R2.tb, r2, h2, fun z v H3 pz g tb rz => k z η2 v H3 pz ((e1.trans e2).trans g.ext) (R2.gr g tb) rz⟩
end
end Z
set_option Elab.async false
set_option linter.all false
set_option maxRecDepth 100000
namespace Z
open PySem PySem.Spec L2 ClX
open PyProof.Rows hiding St
section
variable {X : Cx} {T : List (Addr × Str)} {C : Addr} {mc : Value} {e : Expr} {f : Str} {pos : Pos} {ta : TEp} {x : PV} {v : V} {u : Value}
def tCVP (C : Addr) (y : PV) (ta : TEp) : TEp := fun η P => ta η fun x η1 => x = .raw (.ref C) ∧ P y η1
theorem z_cval (he : PE X e (up X.K T ta)) (r : CRead X.K C mc) (k : CVal X.K C mc f v u) (hv : ∀ O H, Rep X.K O H x v) (hb : attributeBase e f X.env (eval e X.env) = eval e X.env := by rfl) : PE X (.Attribute e f pos) (up X.K T (tCVP C x ta)) := by
  refine PE.weak (pe_cval he hb) fun σ H Q q => ?_
  obtain ⟨F, η, P, R, h, kk⟩ := q
  refine ⟨F, η, _, R, h, fun x η1 w H1 h1 e1 R1 r1 => ?_⟩
  obtain ⟨rfl, h1⟩ := h1
  exact ⟨C, mc, v, u, r1.raw_, r, k, kk _ _ _ _ h1 e1 R1 (hv _ _)⟩
def tIVP (C : Addr) (f : Str) (y : PV) (ta : TEp) : TEp := fun η P => ta η fun x η1 => (∃ fs, x = .ins C fs ∧ fs.lookup f = none) ∧ P y η1
theorem z_ival (he : PE X e (up X.K T ta)) (c : Cls X.K C) (k : Con X.K C f v u) (hv : ∀ O H, Rep X.K O H x v) (hb : attributeBase e f X.env (eval e X.env) = eval e X.env := by rfl) : PE X (.Attribute e f pos) (up X.K T (tIVP C f x ta)) := by
  refine PE.weak (pe_con he hb) fun σ H Q q => ?_
  obtain ⟨F, η, P, R, h, kk⟩ := q
  refine ⟨F, η, _, R, h, fun x η1 w H1 h1 e1 R1 r1 => ?_⟩
  obtain ⟨⟨fs, rfl, hm⟩, h1⟩ := h1
  obtain ⟨a, dx, ws, rfl, na, q, rr⟩ := r1.ins_
  exact ⟨a, C, dx, ws, v, u, rfl, q, c, k, (rr.look f).2 hm, kk _ _ _ _ h1 e1 R1 (hv _ _)⟩
theorem z_smC {sp : SpP} {t : TAp} (pf : PE X e (tSMeth C (upSp X.K T sp) E0 (up X.K T ta) (upA X.K T t))) : PE X e (up X.K T (tSMP C sp ta t)) := PE.weak pf fun σ H Q q => sm_up q
def tDic0P : TEp := fun η P => P .dic0 η
theorem z_dic0 : PE X (.Dict [] [] pos) (up X.K T tDic0P) := by
  refine PE.weak pe_dnewK fun σ H Q q => ?_
  obtain ⟨F, η, P, R, h, kk⟩ := q
  intro p hp
  refine kk _ _ _ _ h (.same (Same.new hp)) (R.same (Same.new hp)) ?_
  unfold Rep
  exact ⟨p, rfl, R.trO.fresh hp, upd_same⟩
end
end Z
set_option Elab.async false
set_option linter.all false
set_option maxRecDepth 100000
namespace Z
open PySem PySem.Spec L2
open PyProof.Rows hiding St
/-! ### the law's end where nothing is being shown -/
/-- what is tracked when the law begins: the script and the tables -/
def trk0 (ts : List Addr) (a : Addr) (o : Obj) (u : HO) : Hp := fun b => if b = a then some (.frz o u) else if b ∈ ts then some (.tbl #[]) else none
section
variable {ts : List Addr} {a b : Addr} {o : Obj} {u : HO}
theorem trk0_a : trk0 ts a o u a = some (.frz o u) := if_pos rfl
theorem trk0_t (n : b ≠ a) (h : b ∈ ts) : trk0 ts a o u b = some (.tbl #[]) := (if_neg n).trans (if_pos h)
theorem trk0_n (n : b ≠ a) (h : b ∉ ts) : trk0 ts a o u b = none := (if_neg n).trans (if_neg h)
end
def NoList (K : PySem.W.Frag) : Bool := K.all fun p => match p.2.cls with
  | .type n => !(n == "list")
  | _ => true
theorem noList_at {K : PySem.W.Frag} (h : NoList K = true) {b : Addr} {o : Obj} (e : K.lookup b = some o) : o.cls ≠ .type "list" := by
  intro z
  have hm : ∃ p ∈ K, p.2 = o := by
    clear h
    induction K with
    | nil => cases e
    | cons p r ih =>
      rw [List.lookup_cons] at e
      cases q : (b == p.1) with
      | true =>
        rw [q] at e
        exact ⟨p, List.mem_cons_self, Option.some.inj e⟩
      | false =>
        rw [q] at e
        obtain ⟨p', h1, h2⟩ := ih e
        exact ⟨p', List.mem_cons_of_mem _ h1, h2⟩
  obtain ⟨p, h1, h2⟩ := hm
  have h3 := List.all_eq_true.mp h p h1
  rw [h2, z] at h3
  exact absurd h3 (by decide)
structure AtEnd (K : PySem.W.Frag) (mg mb : Str → Option Value) (cs : List (Addr × Addr)) (h : Heap) : Prop where
  X : K.In h
  g : h.Ns mainGlobals mg
  b : h.Ns builtinsNs mb
  bb : ∀ x : Str, x ≠ "__name__" → mb x = bootBuiltins x
  nolim : h.NoLimit
  code : ∀ p ∈ cs, PySem.W.CodeHd h p.1 p.2
  tab : ∀ p ∈ cs, h.get? p.2 = some (PySem.W.tabObj #[])
  bm : ∃ bm ob, mg "__builtins__" = some (.ref bm) ∧ bm ≠ builtinsNs ∧ h.get? bm = some ob ∧ ob.cls = .type "module" ∧ ob.dict = some builtinsNs ∧ ob.data = .plain
theorem law_endG {P : Program} {w : World} {K : PySem.W.Frag} {mg mb : Str → Option Value} {k : Nat} {fa a : Addr} {cs : List (Addr × Addr)} {T : List (Addr × Str)} {fd : FuncData} {x : Str} {sp : SpP} {s1 : Shared} {vs : List Value} {ns : List Int}
    (t : AtEnd K mg mb cs s1.heap) (nl : NoList K = true) (nK : ∀ p ∈ cs, K.lookup p.2 = none) (hTT : ∀ p ∈ T, p.1 ∈ cs.map (·.2)) (gn : s1.gens = #[])
    (ha : s1.heap.get? a = some { cls := .type "list", data := .seq vs.toArray }) (hi : IntsAre vs ns) (hl : ns.length ≤ sizeLine) (hr : Room k callerA)
    (F : ∀ base : Heap, K.In base → base.Ns mainGlobals mg → (∀ p ∈ cs, LamX.TabB base mg p.1 p.2) → FnG P w K mg base k fa fd [x] (upSp K T sp)) (hb : ∀ (s : Shared) (u : Value), BindsTo s fd ⟨[u], []⟩ [(x, u)])
    (hsp : sp [.scr ns] fun z => z = .bl true) :
    codeAny (model P w) callerA (.call (.ref fa) ⟨[.ref a], []⟩) (fun r s' => r = .ok (.ret (.bool true)) ∧ OldK s1.heap s'.heap ∧ s'.os = s1.os ∧ AllBare s'.gens) s1 := by
  let ts := cs.map (·.2)
  let ob : Obj := { cls := .type "list", data := .seq vs.toArray }
  let H : Hp := trk0 ts a ob (.lst (ns.map V.int))
  have isT : ∀ b ∈ ts, s1.heap.get? b = some (PySem.W.tabObj #[]) := fun b hb => by
    obtain ⟨p, hp, e⟩ := List.mem_map.mp hb
    rw [← e]; exact t.tab p hp
  have aT : a ∉ ts := fun z => by
    have q := (isT a z).symm.trans ha
    cases q
  have tA : ∀ b ∈ ts, b ≠ a := fun b hb z => aT (z ▸ hb)
  have kA : K.lookup a = none := by
    cases q : K.lookup a with
    | none => rfl
    | some o =>
      have e := (t.X a o q).symm.trans ha
      cases e
      exact absurd rfl (noList_at nl q)
  have kT : ∀ b ∈ ts, K.lookup b = none := fun b hb => by
    obtain ⟨p, hp, e⟩ := List.mem_map.mp hb
    rw [← e]; exact nK p hp
  -- an object that is neither the script nor a table
  have out : ∀ {b : Addr} {o : Obj}, s1.heap.get? b = some o → (∀ vs n, o.data ≠ .seq vs n) → o.data ≠ .fields #[] → H b = none := fun {b o} e h1 h2 => by
    refine trk0_n (fun z => ?_) fun z => ?_
    · rw [z, ha] at e; cases e; exact h1 _ _ rfl
    · rw [isT b z] at e; cases e; exact h2 rfl
  have toBase : ∀ {b : Addr} {o : Obj}, s1.heap.get? b = some o → (∀ vs n, o.data ≠ .seq vs n) → o.data ≠ .fields #[] → (hidT s1.heap H).get? b = some o := fun e h1 h2 => hidT_get e (out e h1 h2)
  have nsB : ∀ {b : Addr} {m : Str → Option Value}, s1.heap.Ns b m → (hidT s1.heap H).Ns b m := fun {b m} ⟨o, es, ep, e, d, r⟩ => ⟨o, es, ep, toBase e (fun vs n z => by rw [d] at z; cases z) (fun z => by rw [d] at z; cases z), d, r⟩
  have KB : K.In (hidT s1.heap H) := fun b o e => hidT_get (t.X b o e) (by
    refine trk0_n (fun z => ?_) fun z => ?_
    · rw [z, kA] at e; cases e
    · rw [kT b z] at e; cases e)
  have M : L2.Mod K mg (hidT s1.heap H) := ⟨KB, nsB t.g, ⟨mb, nsB t.b, t.bb⟩, let ⟨mc, h1, h2⟩ := t.nolim; ⟨mc, nsB h1, h2⟩⟩
  have TB : ∀ p ∈ cs, LamX.TabB (hidT s1.heap H) mg p.1 p.2 := fun p hp => by
    have e2 := t.tab p hp
    refine ⟨?_, ?_, fun z => ?_⟩
    · obtain ⟨o, us, file, tf, flags, tg, inF, text, tt, e1, r1, r2, r3, r⟩ := t.code p hp
      exact ⟨o, us, file, tf, flags, tg, inF, text, tt, toBase e1 (fun vs n z => by rw [r2] at z; cases z) (fun z => by rw [r2] at z; cases z; simp at r3), r1, r2, r3, r⟩
    · obtain ⟨m, om, b1, b2, b3, b4, b5, b6⟩ := t.bm
      refine ⟨m, om, b1, b2, fun q => ?_, fun q => ?_, toBase b3 (fun vs n z => by rw [b6] at z; cases z) (fun z => by rw [b6] at z; cases z), b4, b5, b6⟩
      · obtain ⟨o, es, ep, e, hd, _⟩ := t.g
        rw [q, e] at b3; cases b3; rw [hd] at b6; cases b6
      · rw [q, e2] at b3; cases b3; cases b6
    · obtain ⟨o, es, ep, e, hd, _⟩ := t.g
      rw [z, e2] at e; cases e; cases hd
  have rv := vals_ints hi
  have hok : HOk P w H s1.heap := fun b u e => by
    by_cases hba : b = a
    · rw [hba] at e ⊢
      obtain rfl : _ = u := Option.some.inj (trk0_a.symm.trans e)
      exact ⟨ha, by rw [List.length_map]; exact hl, vs, _, rv, ha⟩
    · by_cases hbt : b ∈ ts
      · obtain rfl : _ = u := Option.some.inj ((trk0_t hba hbt).symm.trans e)
        exact isT b hbt
      · have z := (trk0_n (o := ob) (u := .lst (ns.map V.int)) hba hbt).symm.trans e
        cases z
  have e0 : Env0 P w K mg (hidT s1.heap H) callerA [] s1 H := ⟨rfl, M, fun b o e => of_hidT e, Nat.le_of_eq (hidT_size _ _), trivial, (fun b z => absurd (show b ∈ ([] : List Addr) from z) (by simp)), hok, .of_eq gn⟩
  have hT0 : LamX.Tabs T H := fun p hp => ⟨#[], trk0_t (tA _ (hTT p hp)) (hTT p hp), trivial, fun pos cv z => by cases z⟩
  have promise : upSp K T sp [.ref a] H (fun v _ => v = .bl true) fun _ _ _ => False := by
    refine ⟨fun _ => False, [.scr ns], fun z => z = .bl true, fun b z => z.elim, hT0, ?_, hsp, fun z v H' e _ _ r => ?_⟩
    · unfold Reps
      refine ⟨.ref a, [], rfl, ?_, ?_⟩
      · unfold Rep
        exact ⟨a, ob, rfl, id, trk0_a⟩
      · unfold Reps
        rfl
    · subst e
      exact r.bl_
  refine codeAny_mono ((F _ KB (nsB t.g) TB).run callerA [] s1 H ⟨[.ref a], []⟩ [.ref a] [.ref a] _ _ rfl hr e0 (hb s1 (.ref a)) (.cons rfl .nil) promise) fun r s' h => ?_
  match r, h with
  | .error e, h => exact h.elim
  | .ok (.ret u), ⟨v, H', os, bare, un, hok', r', q⟩ =>
    have q' : v = .bl true := q
    subst q'
    obtain rfl : u = Value.bool true := r'
    have same : ∀ b o, b ∉ ts → s1.heap.get? b = some o → s'.heap.get? b = some o := fun b o nb e => by
      by_cases hba : b = a
      · have z2 := un.frzs b ob (.lst (ns.map V.int)) (by rw [hba]; exact trk0_a)
        rw [hba] at e z2 ⊢
        rw [ha] at e; cases e
        exact (hok' a _ z2).1
      · exact un.keep b o e (trk0_n hba nb) (by intro z; exact absurd (show b ∈ ([] : List Addr) from z) (by simp)) (by simp)
    have more : ∀ b ∈ ts, ∃ m : Array Value, s'.heap.get? b = some (PySem.W.tabObj m) := fun b hb => by
      obtain ⟨m, z⟩ := un.tbls b #[] (trk0_t (tA b hb) hb)
      exact ⟨_, hok' b _ z⟩
    refine ⟨rfl, ⟨fun b o e => ?_, fun b o e => ?_⟩, os, bare⟩
    · by_cases hb : b ∈ ts
      · obtain ⟨m, hm⟩ := more b hb
        rw [isT b hb] at e; cases e
        obtain ⟨p, hp, ep⟩ := List.mem_map.mp hb
        refine .inr (.inl ⟨?_, rfl, #[], m, rfl, by rw [Array.empty_append]; exact hm⟩)
        rw [← ep]
        exact ((t.code p hp).tab (t.tab p hp)).isCodeTable
      · exact .inl (same b o hb e)
    · by_cases hb : b ∈ ts
      · obtain ⟨m, hm⟩ := more b hb
        exact ⟨_, hm⟩
      · exact ⟨o, same b o hb e⟩
/-- what is known of the law's promise at the head's heap -/
def LawG (l : PySem.W.OpenLaw) (w : World) (K : PySem.W.Frag) (k n : Nat) (x : Str) (mg : Str → Option Value) (fa : Addr) (h : Heap) : Prop :=
  ∃ (fd : FuncData) (cs : List (Addr × Addr)) (T : List (Addr × Str)) (sp : SpP), (∀ p ∈ cs, PySem.W.CodeHd h p.1 p.2) ∧ (∀ p ∈ cs, h.get? p.2 = some (PySem.W.tabObj #[])) ∧ (∀ p ∈ cs, K.lookup p.2 = none) ∧ NoList K = true ∧ (∀ p ∈ T, p.1 ∈ cs.map (·.2)) ∧
    (∀ (s : Shared) (u : Value), BindsTo s fd ⟨[u], []⟩ [(x, u)]) ∧ (∀ ns : List Int, ns.length ≤ n → (∀ z ∈ ns, Builtin.Int.intBits z ≤ 1048576) → sp [.scr ns] fun z => z = .bl true) ∧
    ∀ base : Heap, K.In base → base.Ns mainGlobals mg → (∀ p ∈ cs, LamX.TabB base mg p.1 p.2) → FnG l.prog w K mg base k fa fd [x] (upSp K T sp)
theorem walkG {l : PySem.W.OpenLaw} {n k : Nat} {q : Program} {loose : List Str} {XP : (Str → Option Value) → Heap → Prop} {YP : World → Heap → Prop} {d : DefRec} {K : Params → PySem.W.Frag} {x : Str}
    (hn : l.most = some n) (hn2 : n ≤ sizeLine) (hdf : d.params.defaults = []) (hr : Room k callerA) (hY : ∀ (w : World) (h : Heap), YP w h → (K w.params).In h)
    (F : ∀ (w : World) (mg : Str → Option Value) (fa : Addr) (h : Heap), YP w h → (K w.params).In h → h.Ns mainGlobals mg → mg d.name = some (.ref fa) → LawG l w (K w.params) k n x mg fa h) :
    PySem.W.WalkO q loose XP YP l.row.toRowW d [] (fun f vs => PySem.call f vs) := by
  refine Att.attach_callB hn hdf fun w s0 s1 mg mb fa o pm cd doc a vs ns G Y ho hd hcd hmg hobj hints hlen hbits hg => ?_
  obtain ⟨fd, cs, T, sp, hC, hT, nT, nl, hTT, hb, hsp, hF⟩ := F w mg fa _ Y (hY w _ Y) G.T.g hmg
  exact law_endG ⟨hY w _ Y, G.T.g, G.T.b, G.T.builtins, G.T.nolimit, hC, hT, G.T.bmain⟩ nl nT hTT hg hobj hints (Nat.le_trans hlen hn2) hr hF hb (hsp ns hlen hbits)
end Z
set_option Elab.async false
set_option linter.all false
set_option maxRecDepth 100000
namespace Z
open PySem PySem.Spec L2 PySem.Calls
open PyProof.Rows hiding St
/-! ### a class's own ==, !=, len, bool, str -/
/-- what of the text a class with its own == must have -/
structure OwnC (K : PySem.W.Frag) (C fE fL fS : Addr) : Prop where
  t : ClsT K C
  eq : PySem.W.findIn K (.ref C) "__eq__" = some (some (.ref fE))
  eqf : PySem.W.isFn K (.ref fE) = true
  ne : PySem.W.findIn K (.ref C) "__ne__" = some (some (.builtin "object.__ne__"))
  len : PySem.W.findIn K (.ref C) "__len__" = some (some (.ref fL))
  lenf : PySem.W.isFn K (.ref fL) = true
  bool : PySem.W.findIn K (.ref C) "__bool__" = some none
  str : PySem.W.findIn K (.ref C) "__str__" = some (some (.ref fS))
  strf : PySem.W.isFn K (.ref fS) = true
  nf : ∀ n : String, n ∈ ["NoneType", "int", "bool", "str", "tuple", "list", "dict"] → PySem.W.notFirst K C (.type n) = true
theorem OwnC.nfC {K : PySem.W.Frag} {C fE fL fS : Addr} (o : OwnC K C fE fL fS) : PySem.W.notFirst K C (.ref C) = true := by unfold PySem.W.notFirst; simp
section
variable {prog : Program} {w : World} {A : Around} {E : Value → Shared → Prop} {s : Shared} {K : PySem.W.Frag} {x C f : Addr} {ox : Obj} {od : Option Obj}
theorem ifBoundB {id : String} {name : Str} {args : List Value} {Q : Option Value → Shared → Prop} (X : K.In s.heap) (I : PySem.W.InstAt s.heap x ox C od) (hs : PySem.W.findIn K (.ref C) name = some (some (.builtin id)))
    (hb : ∀ self, bindSpecial (.builtin id) self = pure (.builtin id, [self])) (h : wpAny (model prog w) A (call (.builtin id) (.ref x :: args)) (fun v => Q (some v)) E s) : wpAny (model prog w) A (callSpecialIfBound? (.ref x) name args) Q E s := by
  have fin : wpAny (model prog w) A (call (.builtin id) ([.ref x] ++ args) >>= fun v => pure (some v)) Q E s := wpAny_bind (wpAny_mono h (fun v s' z => wpAny_pure z) fun _ _ z => z)
  simp only [callSpecialIfBound?, bindSpecialIfBound?]
  refine wpAny_holding (wpAny_bind (wpAny_bind (wpAny_bind (I.type.here ((PySem.W.looks_findIn X hs).here (wpAny_bind (wpAny_askSetting (wpAny_ite ?_))))))))
  split
  · exact wpAny_bind (((PySem.W.Looks.of_pure (hb (.ref x))).here) (wpAny_pure (by exact fin)))
  · exact wpAny_tryCatch (wpAny_bind (((PySem.W.Looks.of_pure (hb (.ref x))).here) (wpAny_pure (by exact fin))))
theorem objNe {b : Value} {Q : Value → Shared → Prop} (hu : A.in1.units < cLine) (X : K.In s.heap) (I : PySem.W.InstAt s.heap x ox C od) (hm : PySem.W.mroIn K C (.type "object") = some true)
    (he : PySem.W.findIn K (.ref C) "__eq__" = some (some (.ref f))) (hf : PySem.W.isFn K (.ref f) = true)
    (h : wpAny (model prog w) A.in1 (call (.ref f) [.ref x, b]) (fun v s' => ∃ r, v = .bool r ∧ Q (.bool (!r)) s') E s) : wpAny (model prog w) A (call (.builtin "object.__ne__") [.ref x, b]) Q E s := by
  refine wpAny_call (codeAny_call_builtin PySem.F.slot_object_ne.plain PySem.F.cmpEntry_ne (PySem.W.check_slot (i := "object.__ne__") (owner := "object") (n := "__ne__") (by decide +kernel) (by decide +kernel) (I.type.andThen (PySem.W.looks_mroIn X hm)) (PySem.F.cmpArgs_ne _ _) ?_))
  unfold Builtin.«object.__ne__»
  refine wpAny_bind (m := slotArgs "__ne__" 1 _) (wpAny_pure (wpAny_bind (m := cRoomFor _ _) (wpAny_cRoomFor hu ?_)))
  refine wpAny_bind (m := callSpecialIfBound? (.ref x) (Str.ofString "__eq__") _) (PySem.W.ifBound_K X I he hf (wpAny_mono h (fun v s' ⟨r, e, q⟩ => ?_) fun _ _ z => z))
  subst e
  exact wpAny_bind (wpAny_truthy_bool (wpAny_pure q))
theorem ne_own {b tb : Value} {Q : Value → Shared → Prop} (hu : A.units + 1 < cLine) (X : K.In s.heap) (I : PySem.W.InstAt s.heap x ox C od) (hb : PySem.W.Looks (model prog w) s.heap (typeOf b) tb) (hn : PySem.W.notFirst K C tb = true)
    (hne : PySem.W.findIn K (.ref C) "__ne__" = some (some (.builtin "object.__ne__"))) (hm : PySem.W.mroIn K C (.type "object") = some true) (he : PySem.W.findIn K (.ref C) "__eq__" = some (some (.ref f))) (hf : PySem.W.isFn K (.ref f) = true)
    (h : wpAny (model prog w) A.in1 (call (.ref f) [.ref x, b]) (fun v s' => ∃ r, v = .bool r ∧ Q (.bool (!r)) s') E s) : wpAny (model prog w) A (richCompare .NotEq (.ref x) b) Q E s := by
  have one : wpAny (model prog w) A (tryCompare (.ref x) (cmpInfo .NotEq).2.1 b) (fun r s' => ∃ v, r = some (.bool v) ∧ Q (.bool v) s') E s := by
    unfold tryCompare
    have z := objNe (Q := fun v s' => ∃ r, v = .bool r ∧ Q (.bool r) s') hu X I hm he hf (wpAny_mono h (fun v s' ⟨r, e, q⟩ => ⟨r, e, _, rfl, q⟩) fun _ _ z => z)
    refine wpAny_bind (ifBoundB X I hne PySem.F.slot_object_ne.bind (wpAny_mono z (fun v s' ⟨r, e, q⟩ => ?_) fun _ _ z => z))
    subst e
    exact wpAny_pure ⟨r, rfl, q⟩
  unfold richCompare
  simp only [oneThing_ref]
  refine wpAny_holding (wpAny_bind (wpAny_cRoomFor (by omega) (wpAny_bind (I.type.here (wpAny_bind (hb.here ?_))))))
  have back : ∀ {r : Option Value} {s' : Shared}, (∃ v, r = some (.bool v) ∧ Q (.bool v) s') → True := fun _ => True.intro
  split
  · rename_i q
    have e : PySem.W.subIn K tb (.ref C) = some false := by
      rcases Bool.or_eq_true_iff.mp hn with e | e
      · rw [beq_iff_eq.mp e] at q; simp at q
      · exact beq_iff_eq.mp e
    refine wpAny_bind ((PySem.W.looks_subIn X e).here ?_)
    simp only [Bool.false_eq_true, if_false]
    refine wpAny_bind (wpAny_mono one (fun r s' ⟨v, e1, q1⟩ => ?_) fun _ _ z => z)
    subst e1; exact wpAny_pure q1
  · refine wpAny_bind (wpAny_pure ?_)
    simp only [Bool.false_eq_true, if_false]
    refine wpAny_bind (wpAny_mono one (fun r s' ⟨v, e1, q1⟩ => ?_) fun _ _ z => z)
    subst e1; exact wpAny_pure q1
end
end Z
set_option Elab.async false
set_option linter.all false
set_option maxRecDepth 100000
namespace Z
open PySem PySem.Spec L2 PySem.Calls
open PyProof.Rows hiding St
section
variable {prog : Program} {w : World} {A : Around} {E : Value → Shared → Prop} {s : Shared} {K : PySem.W.Frag} {x C f : Addr} {ox : Obj} {od : Option Obj}
theorem lenBody {Q : Value → Shared → Prop} (X : K.In s.heap) (I : PySem.W.InstAt s.heap x ox C od) (hs : PySem.W.findIn K (.ref C) "__len__" = some (some (.ref f))) (hf : PySem.W.isFn K (.ref f) = true)
    (h : wpAny (model prog w) A (call (.ref f) [.ref x]) (fun v s' => ∃ n t, v = .int n t ∧ (0 ≤ n ∧ n < 2 ^ 63) ∧ Q (.int n s'.toks) { s' with toks := s'.toks + 1 }) E s) :
    wpAny (model prog w) A (Builtin.«len» ⟨[.ref x], []⟩) (fun fin s' => ∃ r, fin = .done (.ret r) ∧ Q r s') E s := by
  unfold Builtin.«len»
  refine wpAny_bind (m := oneArg "len" _) (wpAny_pure (wpAny_bind (m := callSpecial? (.ref x) (Str.ofString "__len__")) (PySem.W.special_fn X I hs (beq_iff_eq.mp hf) (wpAny_mono h (fun r s' ⟨n, t, e, ⟨h0, h1⟩, q⟩ => ?_) fun _ _ y => y))))
  subst e
  refine wpAny_bind (wpAny_holding (wpAny_pure (wpAny_bind (wpAny_letGo ?_))))
  show wpAny _ _ (if n < 0 then _ else if n ≥ 2 ^ 63 then _ else _) _ _ _
  rw [if_neg (by omega), if_neg (by omega)]
  exact wpAny_bind (wpAny_mkInt (wpAny_pure ⟨_, rfl, q⟩))
theorem truthyLen {Q : Bool → Shared → Prop} (X : K.In s.heap) (I : PySem.W.InstAt s.heap x ox C od) (hb : PySem.W.findIn K (.ref C) "__bool__" = some none) (hs : PySem.W.findIn K (.ref C) "__len__" = some (some (.ref f))) (hf : PySem.W.isFn K (.ref f) = true)
    (h : wpAny (model prog w) A.in1 (call (.ref f) [.ref x]) (fun v s' => ∃ n t, v = .int n t ∧ (0 ≤ n ∧ n < 2 ^ 63) ∧ Q (n != 0) { s' with toks := s'.toks + 1 }) E s) : wpAny (model prog w) A (truthy (.ref x)) Q E s := by
  have key : wpAny (model prog w) A (runValue (.builtin "len" ⟨[.ref x], []⟩)) (fun r s' => ∃ n t, r = .int n t ∧ Q (n != 0) s') E s := by
    refine wpAny_runValue (codeAny_builtin entry_len ?_)
    rw [Around.under_plainId plain_len _]
    exact wpAny_mono (lenBody (Q := fun r s' => ∃ n t, r = .int n t ∧ Q (n != 0) s') X I hs hf (wpAny_mono h (fun v s' ⟨n, t, e, b, q⟩ => ⟨n, t, e, b, n, _, rfl, q⟩) fun _ _ z => z)) (fun fin s' ⟨r, e, n, t, e2, q⟩ => by subst e; exact ⟨n, t, e2, q⟩) fun _ _ z => z
  unfold truthy
  refine wpAny_bind (m := callSpecial? (.ref x) (Str.ofString "__bool__")) (wpAny_bind (wpAny_bind (I.type.here ((PySem.W.looks_findIn X hb).here (wpAny_pure ?_)))))
  refine wpAny_bind (wpAny_bind (I.type.here ((PySem.W.looks_findIn X hs).here ?_)))
  exact wpAny_bind (wpAny_mono key (fun r s' ⟨n, t, e, q⟩ => by subst e; exact wpAny_pure q) fun _ _ z => z)
theorem boolOf {v : Value} {Q : Value → Shared → Prop} (h : wpAny (model prog w) A.in1.in1 (truthy v) (fun b s' => Q (.bool b) s') E s) : wpAny (model prog w) A (call (.type "bool") [v]) Q E s := by
  refine callType_codes (T := "bool") (Bi := Builtin.«object.__init__») (Q₁ := fun r s1 => ∃ b, r = .bool b ∧ Q r s1) PySem.F.called_bool (PySem.F.typeCall_bool_1 v) PySem.F.entry_object_init ?_ ?_
  · refine codeAny_of_tree ?_
    show wpAny _ A.in1.in1 (do checkBuiltinCall "bool.__new__" ⟨[.type "bool", v], []⟩; again (.builtin "bool.__new__" ⟨[.type "bool", v], []⟩)) _ _ s
    refine wpAny_bind (wpAny_of_eq (PySem.F.newCall_bool_1 v) (wpAny_pure ⟨plainId_quiet (by decide +kernel) _, codeAny_builtin PySem.F.entry_bool_new ?_⟩))
    rw [Around.under_plainId (by decide +kernel) _]
    unfold Builtin.«bool.__new__»
    refine wpAny_bind (wpAny_pure (wpAny_bind (wpAny_of_eq PySem.F.conv_sub_bool ?_)))
    refine wpAny_bind (m := someArgs "bool" 0 1 _) (wpAny_pure (wpAny_bind (wpAny_mono h (fun b s' q => wpAny_pure ⟨b, rfl, q⟩) fun _ _ z => z)))
  · rintro obj s1 ⟨b, rfl, q⟩
    have ty : s1.TypeIs (.bool b) "bool" := PySem.typeIs_bool _ _
    exact ⟨ty, PySem.F.args_object_init_2 _ _, object_init_meets PySem.F.called_bool.init.lookup PySem.F.called_bool.made (by decide) prog w A.in1 _ s1 ⟨ty, rfl, q⟩⟩
end
end Z
set_option Elab.async false
set_option linter.all false
set_option maxRecDepth 100000
namespace Z
open PySem PySem.Spec L2
open PyProof.Rows hiding St
section
variable {X : Cx} {k : Nat} {C fE fL fS f : Addr} {fd : FuncData} {ps : List Str} {sp : Sp}
/-- a call of a def somewhere below the running body -/
theorem run_at {pins : List (Addr × Obj)} {σ : St} {H : Hp} {s : Shared} {Q : VK} {us : List Value} {vs : List V} {A : Around} (F : FnOk X.prog X.w X.K X.mg X.base CX0 k f fd ps sp) (fr : A.frames = X.A.frames) (hr : Room k A) (hb : Binds X.K fd ps [])
    (I : Inv X pins σ H s) (r : Vals vs us) (h : sp vs H Q E0) : wpAny (model X.prog X.w) A (call (.ref f) us) (EP X pins σ Q) X.xe s := by
  have e := I.env0
  have e0 : Env0 X.prog X.w X.K X.mg X.base A X.stack s H := ⟨by rw [fr]; exact e.frames, e.mod, e.bs, e.bsz, e.funs, e.frf, e.hok, e.bare⟩
  have hl := F.len _ _ _ _ h
  refine wpAny_call (codeAny_mono (F.run A X.stack s H ⟨us, []⟩ us vs Q E0 hr e0 (by
    have z := hb s us I.kIn (by rw [List.append_nil, ← r.length]; exact hl)
    rwa [List.append_nil] at z) r h) fun r' s' hq => ?_)
  match r', hq with
  | .error e, hq => exact pass0 pins σ H s e s' I hq
  | .ok (.ret u), hq => exact I.after hq
def rEqO (K : PySem.W.Frag) (C : Addr) (sp : Sp) (neg : Bool) : R2 := fun x y H Q => ∃ a dx fs t, x = .ref a ∧ H a = some (.ins C dx fs) ∧ TyX K H y t ∧ PySem.W.notFirst K C t = true ∧ sp [x, y] H (fun z H' => ∃ b, z = .bl b ∧ Q (.bl (b != neg)) H') E0
theorem op_eqO (F : FnOk X.prog X.w X.K X.mg X.base CX0 k fE fd ps sp) (hr : Room (k + 1) X.A) (o : OwnC X.K C fE fL fS) (hb : Binds X.K fd ps []) : OpR X (compareOp .Eq) (rEqO X.K C sp false) := by
  intro pins s σ H x y v u Q I rx ry h
  obtain ⟨a, dx, fs, t, rfl, ha, ty, nf, hsp⟩ := h
  cases rx
  obtain ⟨mA, J, _⟩ := ins_get I.hok ha
  obtain ⟨od, J, _⟩ := J.look
  obtain ⟨P, kx, hp, _⟩ := kit_of I ry ty
  obtain ⟨m, hF⟩ := I.fr
  refine PySem.W.cmp_ofEq (PySem.W.cmp_K (op := .Eq) (tb := t) hr.units0 hF I.ok.mod.kin J (kx.ty _ _ I.kIn hp) nf o.eq o.eqf ?_)
  refine wpAny_mono (run_at F rfl (hr.mono (Nat.le_succ _)) hb I (.cons (show RelV (V.ref a) (Value.ref a) from rfl) (.cons ry .nil)) hsp) (fun v s' ⟨z, H', I', rz, b, ez, q⟩ => ?_) fun _ _ e => e
  subst ez
  obtain rfl : v = Value.bool b := rz
  show EP X pins σ Q (.bool b) s'
  exact ⟨.bl b, H', I', rfl, by simpa using q⟩
theorem op_neO (F : FnOk X.prog X.w X.K X.mg X.base CX0 k fE fd ps sp) (hr : Room (k + 1) X.A) (o : OwnC X.K C fE fL fS) (hb : Binds X.K fd ps []) : OpR X (compareOp .NotEq) (rEqO X.K C sp true) := by
  intro pins s σ H x y v u Q I rx ry h
  obtain ⟨a, dx, fs, t, rfl, ha, ty, nf, hsp⟩ := h
  cases rx
  obtain ⟨mA, J, _⟩ := ins_get I.hok ha
  obtain ⟨od, J, _⟩ := J.look
  obtain ⟨P, kx, hp, _⟩ := kit_of I ry ty
  have hu := hr.un
  refine PySem.W.cmp_ofNotEq (ne_own (tb := t) (by omega) I.kIn J (kx.ty _ _ I.kIn hp) nf o.ne o.t.hm o.eq o.eqf ?_)
  refine wpAny_mono (run_at F rfl hr.in1 hb I (.cons (show RelV (V.ref a) (Value.ref a) from rfl) (.cons ry .nil)) hsp) (fun v s' ⟨z, H', I', rz, b, ez, q⟩ => ?_) fun _ _ e => e
  subst ez
  obtain rfl : v = Value.bool b := rz
  exact ⟨b, rfl, .bl (!b), H', I', rfl, by simpa using q⟩
def rLenO (C : Addr) (sp : Sp) : List V → Hp → VK → Prop := fun xs H Q => ∃ a dx fs, xs = [.ref a] ∧ H a = some (.ins C dx fs) ∧ sp [.ref a] H (fun z H' => ∃ n : Int, z = .int n ∧ (0 ≤ n ∧ n < 2 ^ 63) ∧ Q (.int n) H') E0
theorem call_lenO (F : FnOk X.prog X.w X.K X.mg X.base CX0 k fL fd ps sp) (hr : Room (k + 1) X.A) (o : OwnC X.K C fE fL fS) (hb : Binds X.K fd ps []) : CallR X (.builtin "len") (rLenO C sp) := by
  intro pins s σ H xs us Q I r h
  obtain ⟨a, dx, fs, rfl, ha, hsp⟩ := h
  obtain rfl := Vals.ref1 r
  obtain ⟨mA, J, _⟩ := ins_get I.hok ha
  obtain ⟨od, J, _⟩ := J.look
  obtain ⟨m, hF⟩ := I.fr
  refine PySem.W.len_K hF I.ok.mod.kin J o.len o.lenf ?_
  refine wpAny_mono (run_at F rfl hr.in1 hb I r hsp) (fun v s' ⟨z, H', I', rz, n, ez, hn, q⟩ => ?_) fun _ _ e => e
  subst ez
  obtain ⟨t, rfl⟩ : ∃ t, v = Value.int n t := rz
  exact ⟨hn, .int n, H', I'.tok _, ⟨_, rfl⟩, q⟩
def rBoolO (C : Addr) (sp : Sp) : List V → Hp → VK → Prop := fun xs H Q => ∃ a dx fs, xs = [.ref a] ∧ H a = some (.ins C dx fs) ∧ sp [.ref a] H (fun z H' => ∃ n : Int, z = .int n ∧ (0 ≤ n ∧ n < 2 ^ 63) ∧ Q (.bl (n != 0)) H') E0
theorem call_boolO (F : FnOk X.prog X.w X.K X.mg X.base CX0 k fL fd ps sp) (hr : Room (k + 3) X.A) (o : OwnC X.K C fE fL fS) (hb : Binds X.K fd ps []) : CallR X (.type "bool") (rBoolO C sp) := by
  intro pins s σ H xs us Q I r h
  obtain ⟨a, dx, fs, rfl, ha, hsp⟩ := h
  obtain rfl := Vals.ref1 r
  obtain ⟨mA, J, _⟩ := ins_get I.hok ha
  obtain ⟨od, J, _⟩ := J.look
  refine boolOf (truthyLen I.kIn J o.bool o.len o.lenf ?_)
  refine wpAny_mono (run_at F rfl (Room.in1 (Room.in1 (Room.in1 hr))) hb I r hsp) (fun v s' ⟨z, H', I', rz, n, ez, hn, q⟩ => ?_) fun _ _ e => e
  subst ez
  obtain ⟨t, rfl⟩ : ∃ t, v = Value.int n t := rz
  exact ⟨n, t, rfl, hn, .bl (n != 0), H', I'.tok _, rfl, q⟩
def rStrO (C : Addr) (sp : Sp) : List V → Hp → VK → Prop := fun xs H Q => ∃ a dx fs, xs = [.ref a] ∧ H a = some (.ins C dx fs) ∧ sp [.ref a] H (fun z H' => ∃ y, z = .str y ∧ Q z H') E0
theorem call_strO (F : FnOk X.prog X.w X.K X.mg X.base CX0 k fS fd ps sp) (hr : Room (k + 2) X.A) (o : OwnC X.K C fE fL fS) (hb : Binds X.K fd ps []) : CallR X (.type "str") (rStrO C sp) := by
  intro pins s σ H xs us Q I r h
  obtain ⟨a, dx, fs, rfl, ha, hsp⟩ := h
  obtain rfl := Vals.ref1 r
  obtain ⟨mA, J, _⟩ := ins_get I.hok ha
  obtain ⟨od, J, _⟩ := J.look
  refine PySem.W.kso_call (Room.in1 (Room.in1 hr)).units0 I.kIn J o.str o.strf ?_
  refine wpAny_mono (run_at F rfl (Room.in1 (Room.in1 hr)) hb I r hsp) (fun v s' ⟨z, H', I', rz, y, ez, q⟩ => ?_) fun _ _ e => e
  subst ez
  obtain ⟨t, rfl⟩ : ∃ t, v = Value.str y t := rz
  exact ⟨.str y, H', I', ⟨t, rfl⟩, q⟩
end
/-! over plain values -/
section
variable {X : Cx} {T : List (Addr × Str)} {k : Nat} {C fE fL fS f : Addr} {fd : FuncData} {ps ks : List Str} {sp : SpP} {sr : SpR} {a b e : Expr} {es : List Expr} {ta tb : TEp} {t tk : TAp} {pos p : Pos} {x : Str} {kws : List Keyword}
/-- what may stand on the right of an own == -/
def EqTy (K : PySem.W.Frag) (C : Addr) (y : PV) : Prop := (tyN y).isSome = true ∨ ∃ fs, y = .ins C fs
theorem eqTy_rep {K : PySem.W.Frag} {O : Addr → Prop} {H : Hp} {y : PV} {v : V} (o : OwnC K C fE fL fS) (h : Rep K O H y v) (t : EqTy K C y) : ∃ u, TyX K H v u ∧ PySem.W.notFirst K C u = true := by
  rcases t with t | ⟨fs, rfl⟩
  · obtain ⟨n, e⟩ := Option.isSome_iff_exists.mp t
    refine ⟨_, tyN_rep h e, o.nf n ?_⟩
    cases y <;> unfold tyN at e <;> cases e <;> decide
  · obtain ⟨a, dx, ws, rfl, na, q, rr⟩ := h.ins_
    exact ⟨_, .base (.ins q o.t.cl o.t.ha o.t.hn o.t.htk o.t.hm), o.nfC⟩
def tEqOP (K : PySem.W.Frag) (C : Addr) (sp : SpP) (neg : Bool) (ta tb : TEp) : TEp := fun η P => ta η fun x η1 => tb η1 fun y η2 => (∃ fs, x = .ins C fs) ∧ EqTy K C y ∧ sp [x, y] fun z => ∃ b, z = .bl b ∧ P (.bl (b != neg)) η2
theorem z_cmpO {op : CmpOp} {neg : Bool} (o : OwnC X.K C fE fL fS) (ho : OpR X (compareOp op) (rEqO X.K C (upSp X.K T sp) neg)) (ha : PE X a (up X.K T ta)) (hb : PE X b (up X.K T tb)) (hm : behindInMarks op b = false := by first | exact nomark _ | rfl) :
    PE X (.Compare a [op] [b] pos) (up X.K T (tEqOP X.K C sp neg ta tb)) := by
  refine PE.weak (pe_cmpR ho ha hb hm) fun σ H Q q => ?_
  obtain ⟨F, η, P, R, h, kk⟩ := q
  refine ⟨F, η, _, R, h, fun x η1 v H1 h1 e1 R1 r1 => ⟨F, η1, _, R1, h1, fun y η2 w H2 h2 e2 R2 rw => ?_⟩⟩
  obtain ⟨⟨fs, rfl⟩, ty, h2⟩ := h2
  have rx := r1.car e2.car
  obtain ⟨u, t1, t2⟩ := eqTy_rep o rw ty
  obtain ⟨a', dx, ws, rfl, na, q', rr⟩ := id rx.ins_
  exact ⟨a', dx, ws, u, rfl, q', t1, t2, Oof F σ η2, _, _, R2.trO, R2.tb, .cons rx (.cons rw .nil), h2, fun z v H3 ⟨b, ez, pz⟩ g tb rz => ⟨b, by rw [ez] at rz; exact rz.bl_, kk _ η2 _ H3 pz ((e1.trans e2).trans g.ext) (R2.gr g tb) (by unfold Rep; rfl)⟩⟩
theorem zt_cmpO {op : CmpOp} {neg : Bool} (o : OwnC X.K C fE fL fS) (ho : OpR X (compareOp op) (rEqO X.K C (upSp X.K T sp) neg)) (ha : PE X a (up X.K T ta)) (hb : PE X b (up X.K T tb)) (hm : behindInMarks op b = false := by first | exact nomark _ | rfl) :
    PT X (.Compare a [op] [b] pos) (upB X.K T (tBlP (tEqOP X.K C sp neg ta tb))) := by
  refine PT.weak (pt_cmpR ho ha hb hm) fun σ H Q q => ?_
  obtain ⟨F, η, P, R, h, kk⟩ := q
  refine ⟨F, η, _, R, h, fun x η1 v H1 h1 e1 R1 r1 => ⟨F, η1, _, R1, h1, fun y η2 w H2 h2 e2 R2 rw => ?_⟩⟩
  obtain ⟨⟨fs, rfl⟩, ty, h2⟩ := h2
  have rx := r1.car e2.car
  obtain ⟨u, t1, t2⟩ := eqTy_rep o rw ty
  obtain ⟨a', dx, ws, rfl, na, q', rr⟩ := id rx.ins_
  exact ⟨a', dx, ws, u, rfl, q', t1, t2, Oof F σ η2, _, _, R2.trO, R2.tb, .cons rx (.cons rw .nil), h2, fun z v H3 ⟨b, ez, pz⟩ g tb rz => ⟨b, by rw [ez] at rz; exact rz.bl_, _, rfl, kk _ η2 H3 pz ((e1.trans e2).trans g.ext) (R2.gr g tb)⟩⟩
def tLenOP (C : Addr) (sp : SpP) (t : TAp) : TEp := fun η P => t η fun xs η1 => ∃ fs, xs = [.ins C fs] ∧ sp [.ins C fs] fun z => ∃ n : Int, z = .int n ∧ (0 ≤ n ∧ n < 2 ^ 63) ∧ P (.int n) η1
theorem z_lenO (o : OwnC X.K C fE fL fS) (hc : CallR X (.builtin "len") (rLenO C (upSp X.K T sp))) (hg : Gl X x) (hm : X.mg x = none) (hv : bootBuiltins x = some (.builtin "len")) (ha : PA X (e :: es) (upA X.K T t)) (hn : x ≠ "__name__" := by decide) (hdb : (x == ("__debug__" : Str)) = false := by decide)
    (he : starEach (e :: es) X.env = (false, eval e X.env) :: starEach es X.env := by rfl) (hpl : (backTo pos (starEach es X.env)).any (·.1) = false := by rfl) : PE X (.Call (.Name x p) (e :: es) [] pos) (up X.K T (tLenOP C sp t)) := by
  refine PE.weak (pe_callB hc hg hm hv ha hn hdb he hpl) fun σ H Q q => ?_
  obtain ⟨F, η, P, R, h, kk⟩ := q
  refine ⟨F, η, _, R, h, fun xs η1 v H1 h1 e1 R1 r1 => ?_⟩
  obtain ⟨fs, rfl, h1⟩ := h1
  obtain ⟨v1, rfl, r2⟩ := r1.one
  obtain ⟨a', dx, ws, rfl, na, q', rr⟩ := id r2.ins_
  exact ⟨a', dx, ws, rfl, q', Oof F σ η1, _, _, R1.trO, R1.tb, .cons r2 .nil, h1, fun z v H3 ⟨n, ez, hn, pz⟩ g tb rz => ⟨n, by rw [ez] at rz; exact rz.int_, hn, kk _ η1 _ H3 pz (e1.trans g.ext) (R1.gr g tb) (by unfold Rep; rfl)⟩⟩
def tBoolOP (C : Addr) (sp : SpP) (t : TAp) : TEp := fun η P => t η fun xs η1 => ∃ fs, xs = [.ins C fs] ∧ sp [.ins C fs] fun z => ∃ n : Int, z = .int n ∧ (0 ≤ n ∧ n < 2 ^ 63) ∧ P (.bl (n != 0)) η1
theorem z_boolO (o : OwnC X.K C fE fL fS) (hc : CallR X (.type "bool") (rBoolO C (upSp X.K T sp))) (hg : Gl X x) (hm : X.mg x = none) (hv : bootBuiltins x = some (.type "bool")) (ha : PA X (e :: es) (upA X.K T t)) (hn : x ≠ "__name__" := by decide) (hdb : (x == ("__debug__" : Str)) = false := by decide)
    (he : starEach (e :: es) X.env = (false, eval e X.env) :: starEach es X.env := by rfl) (hpl : (backTo pos (starEach es X.env)).any (·.1) = false := by rfl) : PE X (.Call (.Name x p) (e :: es) [] pos) (up X.K T (tBoolOP C sp t)) := by
  refine PE.weak (pe_callTy hc hg hm hv ha hn hdb he hpl) fun σ H Q q => ?_
  obtain ⟨F, η, P, R, h, kk⟩ := q
  refine ⟨F, η, _, R, h, fun xs η1 v H1 h1 e1 R1 r1 => ?_⟩
  obtain ⟨fs, rfl, h1⟩ := h1
  obtain ⟨v1, rfl, r2⟩ := r1.one
  obtain ⟨a', dx, ws, rfl, na, q', rr⟩ := id r2.ins_
  exact ⟨a', dx, ws, rfl, q', Oof F σ η1, _, _, R1.trO, R1.tb, .cons r2 .nil, h1, fun z v H3 ⟨n, ez, hn, pz⟩ g tb rz => ⟨n, by rw [ez] at rz; exact rz.int_, hn, kk _ η1 _ H3 pz (e1.trans g.ext) (R1.gr g tb) (by unfold Rep; rfl)⟩⟩
def tStrOP (C : Addr) (sp : SpP) (t : TAp) : TEp := fun η P => t η fun xs η1 => ∃ fs, xs = [.ins C fs] ∧ sp [.ins C fs] fun z => (∃ y, z = .str y) ∧ P z η1
theorem z_strO (o : OwnC X.K C fE fL fS) (hc : CallR X (.type "str") (rStrO C (upSp X.K T sp))) (hg : Gl X x) (hm : X.mg x = none) (hv : bootBuiltins x = some (.type "str")) (ha : PA X (e :: es) (upA X.K T t)) (hn : x ≠ "__name__" := by decide) (hdb : (x == ("__debug__" : Str)) = false := by decide)
    (he : starEach (e :: es) X.env = (false, eval e X.env) :: starEach es X.env := by rfl) (hpl : (backTo pos (starEach es X.env)).any (·.1) = false := by rfl) : PE X (.Call (.Name x p) (e :: es) [] pos) (up X.K T (tStrOP C sp t)) := by
  refine PE.weak (pe_callTy hc hg hm hv ha hn hdb he hpl) fun σ H Q q => ?_
  obtain ⟨F, η, P, R, h, kk⟩ := q
  refine ⟨F, η, _, R, h, fun xs η1 v H1 h1 e1 R1 r1 => ?_⟩
  obtain ⟨fs, rfl, h1⟩ := h1
  obtain ⟨v1, rfl, r2⟩ := r1.one
  obtain ⟨a', dx, ws, rfl, na, q', rr⟩ := id r2.ins_
  exact ⟨a', dx, ws, rfl, q', Oof F σ η1, _, _, R1.trO, R1.tb, .cons r2 .nil, h1, fun z v H3 ⟨⟨y, ez⟩, pz⟩ g tb rz => ⟨y, by rw [ez] at rz; exact rz.str_, kk _ η1 _ H3 pz (e1.trans g.ext) (R1.gr g tb) rz⟩⟩
/-! C(k = v, ..) -/
theorem pe_makeN0 {X : Cx} {CX : CXT} {k : Nat} {f C : Addr} {fd : FuncData} {ps ks : List Str} {sp : Sp} {E : XK} {x : Str} {p pos : Pos} {kws : List Keyword} {tk : TA} {g : List Value → List Value → List Value} {gV : List V → List V → List V}
    (M : Mk X.K C f) (F : FnOk X.prog X.w X.K X.mg X.base CX k f fd ps sp) (hr : Room (k + 1) X.A) (hg : Gl X x) (hm : X.mg x = some (.ref C)) (hb : KBn X.K fd ps (0 + 1) ks g gV) (hx : Passes CX X E) (hkw : PK X kws tk)
    (hall : (backToKw pos (keywordEach kws X.env)).all (·.1.isSome) = true := by rfl) (hks : (backToKw pos (keywordEach kws X.env)).filterMap (·.1) = ks := by rfl) (hdb : (x == ("__debug__" : Str)) = false := by decide)
    (hpl : ((backTo pos (starEach [] X.env)).any (·.1) || (backToKw pos (keywordEach kws X.env)).any (·.1.isNone)) = false := by rfl) :
    PE X (.Call (.Name x p) [] kws pos) (tMakeN C 0 ks.length sp gV E tNil tk) := by
  refine ⟨fun pins s σ H Q I h => wpAny_Call_Name_kw (ld_glob I hg hm ?_ hdb)⟩
  refine PySem.W.callWith_KW0 (h₀ := X.base) (first := []) I.ok.mod.kin M.kp hall (thn (hkw.run pos pins s σ H _ I h) fun ws s2 ⟨zs, H2, I2, rz, l1, l2, q2⟩ => ⟨I2.kIn, ?_⟩) hpl
  rw [hks]
  exact run_makeN M F hr hb hx I2 .nil rz l1 l2 q2
def tNewKP (C : Addr) (sr : SpR) (m : Nat) (perm : List PV → List PV) (tk : TAp) : TEp := fun η P => tk η fun zs η1 => zs.length = m ∧ sr (.o C []) (perm zs) fun r o' => r = .non ∧ ∃ fs, o' = .o C fs ∧ P (.ins C fs) η1
theorem z_newK {perm : List PV → List PV} {permV : List V → List V} {g : List Value → List Value → List Value} (M : Mk X.K C f) (Fn : FnOk X.prog X.w X.K X.mg X.base CX0 k f fd ps (upSpR X.K T sr)) (hr : Room (k + 1) X.A) (hg : Gl X x) (hm : X.mg x = some (.ref C))
    (hb : KBn X.K fd ps (0 + 1) ks g fun vs zs => vs ++ permV zs) (hp : ∀ {O H zs vs}, zs.length = ks.length → Reps X.K O H zs vs → Reps X.K O H (perm zs) (permV vs)) (hkw : PK X kws (upA X.K T tk))
    (hall : (backToKw pos (keywordEach kws X.env)).all (·.1.isSome) = true := by rfl) (hks : (backToKw pos (keywordEach kws X.env)).filterMap (·.1) = ks := by rfl) (hdb : (x == ("__debug__" : Str)) = false := by decide)
    (hpl : ((backTo pos (starEach [] X.env)).any (·.1) || (backToKw pos (keywordEach kws X.env)).any (·.1.isNone)) = false := by rfl) :
    PE X (.Call (.Name x p) [] kws pos) (up X.K T (tNewKP C sr ks.length perm tk)) := by
  refine PE.weak (pe_makeN0 M Fn hr hg hm hb pass0 hkw hall hks hdb hpl) fun σ H Q q => ?_
  obtain ⟨F, η, P, R, h, k⟩ := q
  refine ⟨F, η, _, R, h, fun zs η1 vs H1 h1 e1 R1 r1 => ?_⟩
  obtain ⟨hl, h1⟩ := h1
  refine ⟨rfl, by rw [r1.len]; exact hl, fun x dx nx ndx nex => ?_⟩
  have s1 : Same H1 (upd (upd H1 dx (.own x)) x (.ins C dx [])) := fun b u hb => by
    rw [upd_ne (ne_of_none hb nx), upd_ne (ne_of_none hb ndx)]; exact hb
  have nO : ¬ Oof F σ η1 x := fun z => R1.trO x z (Nw.of nx)
  have c1 : Car (Oof F σ η1) (With (Oof F σ η1) x) H1 (upd (upd H1 dx (.own x)) x (.ins C dx [])) := fun b u n hb _ => ⟨s1 b u hb, fun z => z.elim n (ne_of_none hb nx)⟩
  refine ⟨Oof F σ η1, x, _, .o C [], _, _, rfl, nO, R1.trO.same s1, R1.tb.ext s1, ⟨dx, [], upd_same, by unfold RepF; rfl⟩, hp hl (r1.car c1), h1, fun z o' v H2 pz g tb ho' rz => ?_⟩
  obtain ⟨rfl, fs, rfl, pz⟩ := pz
  obtain ⟨dx', ws, hx, rf⟩ := ho'
  have g' : Gr H1 H2 := ⟨fun b u hb t => g.keep b u (ne_of_none hb nx) (s1 b u hb) t, fun b hb => g.live b fun q => hb fun o z => q o (s1 b o z)⟩
  refine ⟨rz.non_, k _ η1 _ H2 pz (e1.trans g'.ext) (R1.gr g' tb) ?_⟩
  unfold Rep
  exact ⟨x, dx', ws, rfl, nO, hx, rf.mono fun b z => .inl z⟩
end
end Z
set_option Elab.async false
set_option linter.all false
set_option maxRecDepth 100000
namespace Z
open PySem PySem.Spec L2
open PyProof.Rows hiding St
/-! ### texts that are shown tell the values -/
theorem split1 {c : Nat} : ∀ {a b r s : List Nat}, c ∉ a → c ∉ b → a ++ c :: r = b ++ c :: s → a = b ∧ r = s
  | [], [], r, s, _, _, h => ⟨rfl, by injection h⟩
  | [], y :: b, r, s, _, hb, h => by
    injection h with h1 h2
    exact absurd (List.mem_cons.mpr (.inl h1)) hb
  | x :: a, [], r, s, ha, _, h => by
    injection h with h1 h2
    exact absurd (List.mem_cons.mpr (.inl h1.symm)) ha
  | x :: a, y :: b, r, s, ha, hb, h => by
    injection h with h1 h2
    obtain ⟨e1, e2⟩ := split1 (fun z => ha (List.mem_cons_of_mem _ z)) (fun z => hb (List.mem_cons_of_mem _ z)) h2
    exact ⟨by rw [h1, e1], e2⟩
def tiL (i : Int) : List Nat := ((toString i : String) : Str).cps.toList
theorem tiL_free {i : Int} {k : Nat} (h : k ≠ 45 ∧ (k < 48 ∨ 57 < k)) : k ∉ tiL i := int_text_free' k h i
theorem toNat_inj : ∀ {a b : List Char}, a.map Char.toNat = b.map Char.toNat → a = b
  | [], [], _ => rfl
  | [], _ :: _, h => by cases h
  | _ :: _, [], h => by cases h
  | x :: a, y :: b, h => by
    injection h with h1 h2
    rw [toNat_inj h2, Char.toNat_inj.mp h1]
theorem tiL_inj {i j : Int} (hi : 0 ≤ i) (hj : 0 ≤ j) (h : tiL i = tiL j) : i = j := by
  obtain ⟨m, rfl⟩ := Int.eq_ofNat_of_zero_le hi
  obtain ⟨n, rfl⟩ := Int.eq_ofNat_of_zero_le hj
  have e1 : tiL ((m : Nat) : Int) = (Nat.toDigits 10 m).map Char.toNat := by
    unfold tiL
    rw [show ((toString ((m : Nat) : Int) : String) : Str) = ⟨((Nat.toDigits 10 m).map Char.toNat).toArray⟩ from text_ofNat m]
  have e2 : tiL ((n : Nat) : Int) = (Nat.toDigits 10 n).map Char.toNat := by
    unfold tiL
    rw [show ((toString ((n : Nat) : Int) : String) : Str) = ⟨((Nat.toDigits 10 n).map Char.toNat).toArray⟩ from text_ofNat n]
  rw [e1, e2] at h
  have h2 := congrArg (fun l => Nat.ofDigitChars 10 l 0) (toNat_inj h)
  simp only [Nat.ofDigitChars_ten_toDigits] at h2
  rw [h2]
/-! names, rows -/
def LowS (x : Str) : Prop := ∀ c ∈ x.cps.toList, 97 ≤ c ∧ c ≤ 122
theorem low_char {c : Nat} (h : 97 ≤ c ∧ c ≤ 122) : Builtin.Str.reprChar 39 c = [c] := by
  obtain ⟨h1, h2⟩ := h
  have : ∀ d : Fin 26, Builtin.Str.reprChar 39 (97 + d.val) = [97 + d.val] := by decide +kernel
  have e := this ⟨c - 97, by omega⟩
  rwa [show 97 + (c - 97) = c from by omega] at e
theorem low_fold : ∀ (l : List Nat) (acc : Array Nat), (∀ c ∈ l, 97 ≤ c ∧ c ≤ 122) → l.foldl (fun out c => out ++ (Builtin.Str.reprChar 39 c).toArray) acc = acc ++ l.toArray
  | [], acc, _ => by simp
  | c :: l, acc, h => by
    rw [List.foldl_cons, low_char (h c List.mem_cons_self), low_fold l _ fun d hd => h d (List.mem_cons_of_mem _ hd)]
    apply Array.ext'
    simp
theorem low_repr {x : Str} (h : LowS x) : (reprText x).cps.toList = 39 :: (x.cps.toList ++ [39]) := by
  have hq : reprQuote x = 39 := by
    unfold reprQuote
    have n : x.cps.contains 39 = false := by
      cases e : x.cps.contains 39 with
      | false => rfl
      | true =>
        have m : 39 ∈ x.cps.toList := by simpa using e
        exact absurd (h 39 m) (by omega)
    rw [n]; rfl
  unfold reprText
  rw [hq, ← Array.foldl_toList, low_fold _ _ h]
  simp
abbrev Row3 := Str × Int × Int
def rowE (r : Row3) : PyData := .tuple [.str r.1, .int r.2.1, .int r.2.2]
def rowL (r : Row3) : List Nat := 40 :: 39 :: (r.1.cps.toList ++ 39 :: 44 :: 32 :: (tiL r.2.1 ++ 44 :: 32 :: (tiL r.2.2 ++ [41])))
structure GoodR (r : Row3) : Prop where
  low : LowS r.1
  s0 : 0 ≤ r.2.1
  e0 : 0 ≤ r.2.2
theorem shown_row {r : Row3} (h : GoodR r) : (rowE r).shown.cps.toList = rowL r := by
  unfold rowE rowL
  simp only [PyData.shown, PyData.shownAll]
  unfold tupleText
  simp only [Str.join, List.length_cons, List.length_nil, cps_toList_append, low_repr h.low]
  show _ = _
  simp [tiL]
  rfl
theorem rowL_inj {r r' : Row3} {R R' : List Nat} (h : GoodR r) (h' : GoodR r') (e : rowL r ++ R = rowL r' ++ R') : r = r' ∧ R = R' := by
  unfold rowL at e
  simp only [List.cons_append, List.append_assoc, List.nil_append] at e
  injection e with _ e
  injection e with _ e
  obtain ⟨e1, e⟩ := split1 (fun z => absurd (h.low _ z) (by omega)) (fun z => absurd (h'.low _ z) (by omega)) e
  injection e with _ e
  injection e with _ e
  obtain ⟨e2, e⟩ := split1 (tiL_free ⟨by omega, by omega⟩) (tiL_free ⟨by omega, by omega⟩) e
  injection e with _ e
  obtain ⟨e3, e4⟩ := split1 (tiL_free ⟨by omega, by omega⟩) (tiL_free ⟨by omega, by omega⟩) e
  obtain ⟨x, s, t⟩ := r
  obtain ⟨x', s', t'⟩ := r'
  have q1 : x = x' := by
    obtain ⟨⟨l⟩⟩ := x
    obtain ⟨⟨l'⟩⟩ := x'
    exact congrArg (fun z => (⟨⟨z⟩⟩ : Str)) e1
  have q2 : s = s' := tiL_inj h.s0 h'.s0 e2
  have q3 : t = t' := tiL_inj h.e0 h'.e0 e3
  exact ⟨by rw [q1, q2, q3], e4⟩
def joinL : List (List Nat) → List Nat
  | [] => []
  | [x] => x
  | x :: y :: r => x ++ 44 :: 32 :: joinL (y :: r)
theorem join_cps : ∀ ts : List Str, (Str.join ", " ts).cps.toList = joinL (ts.map fun t => t.cps.toList)
  | [] => rfl
  | [x] => rfl
  | x :: y :: r => by
    show (x ++ ", " ++ Str.join ", " (y :: r)).cps.toList = _
    rw [cps_toList_append, cps_toList_append, join_cps (y :: r), List.append_assoc]
    rfl
def tupL (ts : List (List Nat)) : List Nat := 40 :: (joinL ts ++ if ts.length == 1 then [44, 41] else [41])
theorem tuple_cps (ts : List Str) : (tupleText ts).cps.toList = tupL (ts.map fun t => t.cps.toList) := by
  unfold tupleText tupL
  rw [cps_toList_append, cps_toList_append, join_cps, List.length_map]
  by_cases h : (ts.length == 1) = true
  · rw [if_pos h, if_pos h]; rfl
  · rw [if_neg h, if_neg h]; rfl
theorem shownAll_rows : ∀ {rs : List Row3}, (∀ r ∈ rs, GoodR r) → (PyData.shownAll (rs.map rowE)).map (fun t => t.cps.toList) = rs.map rowL
  | [], _ => rfl
  | r :: rs, h => by
    rw [List.map_cons, PyData.shownAll, List.map_cons, List.map_cons, shown_row (h r List.mem_cons_self), shownAll_rows fun q hq => h q (List.mem_cons_of_mem _ hq)]
theorem join_inj : ∀ {rs us : List Row3} {R R' : List Nat}, (∀ r ∈ rs, GoodR r) → (∀ r ∈ us, GoodR r) → rs ≠ [] → us ≠ [] → joinL (rs.map rowL) ++ 41 :: R = joinL (us.map rowL) ++ 41 :: R' → rs = us
  | [], _, _, _, _, _, h, _, _ => absurd rfl h
  | _ :: _, [], _, _, _, _, _, h, _ => absurd rfl h
  | [r], [u], R, R', hr, hu, _, _, e => by
    obtain ⟨e1, _⟩ := rowL_inj (hr r List.mem_cons_self) (hu u List.mem_cons_self) e
    rw [e1]
  | [r], u :: u2 :: us, R, R', hr, hu, _, _, e => by
    simp only [List.map_cons, List.map_nil, joinL, List.append_assoc] at e
    obtain ⟨_, e2⟩ := rowL_inj (hr r List.mem_cons_self) (hu u List.mem_cons_self) e
    cases e2
  | r :: r2 :: rs, [u], R, R', hr, hu, _, _, e => by
    simp only [List.map_cons, List.map_nil, joinL, List.append_assoc] at e
    obtain ⟨_, e2⟩ := rowL_inj (hr r List.mem_cons_self) (hu u List.mem_cons_self) e
    cases e2
  | r :: r2 :: rs, u :: u2 :: us, R, R', hr, hu, _, _, e => by
    simp only [List.map_cons, joinL, List.append_assoc] at e
    obtain ⟨e1, e2⟩ := rowL_inj (hr r List.mem_cons_self) (hu u List.mem_cons_self) e
    simp only [List.cons_append] at e2
    injection e2 with _ e2
    injection e2 with _ e2
    rw [e1, join_inj (rs := r2 :: rs) (us := u2 :: us) (fun q hq => hr q (List.mem_cons_of_mem _ hq)) (fun q hq => hu q (List.mem_cons_of_mem _ hq)) (by simp) (by simp) e2]
theorem rows_inj {rs us : List Row3} {R R' : List Nat} (hr : ∀ r ∈ rs, GoodR r) (hu : ∀ r ∈ us, GoodR r) (e : tupL (rs.map rowL) ++ R = tupL (us.map rowL) ++ R') : rs = us := by
  unfold tupL at e
  simp only [List.cons_append, List.length_map, List.append_assoc] at e
  injection e with _ e
  match rs, us, hr, hu, e with
  | [], [], _, _, _ => rfl
  | [], u :: us, _, hu, e =>
    match us, e with
    | [], e => simp [joinL, rowL] at e
    | u2 :: us, e => simp [joinL, rowL] at e
  | r :: rs, [], hr, _, e =>
    match rs, e with
    | [], e => simp [joinL, rowL] at e
    | r2 :: rs, e => simp [joinL, rowL] at e
  | [r], [u], hr, hu, e =>
    rw [(rowL_inj (hr r List.mem_cons_self) (hu u List.mem_cons_self) e).1]
  | [r], u :: u2 :: us, hr, hu, e =>
    simp only [List.map_cons, List.map_nil, joinL, List.append_assoc] at e
    obtain ⟨_, e2⟩ := rowL_inj (hr r List.mem_cons_self) (hu u List.mem_cons_self) e
    simp at e2
  | r :: r2 :: rs, [u], hr, hu, e =>
    simp only [List.map_cons, List.map_nil, joinL, List.append_assoc] at e
    obtain ⟨_, e2⟩ := rowL_inj (hr r List.mem_cons_self) (hu u List.mem_cons_self) e
    simp at e2
  | r :: r2 :: rs, u :: u2 :: us, hr, hu, e =>
    exact join_inj hr hu (by simp) (by simp) (by simpa using e)
/-- a width and its rows, as a pair -/
def pairD (n : Int) (rs : List Row3) : PyData := .tuple [.int n, .tuple (rs.map rowE)]
theorem pair_inj {n m : Int} {rs us : List Row3} (hn : 0 ≤ n) (hm : 0 ≤ m) (hr : ∀ r ∈ rs, GoodR r) (hu : ∀ r ∈ us, GoodR r) (e : (pairD n rs).shown = (pairD m us).shown) : n = m ∧ rs = us := by
  have key : ∀ {n : Int} {rs : List Row3}, (∀ r ∈ rs, GoodR r) → (pairD n rs).shown.cps.toList = 40 :: (tiL n ++ 44 :: 32 :: (tupL (rs.map rowL) ++ [41])) := fun {n rs} h => by
    unfold pairD
    simp only [PyData.shown, PyData.shownAll]
    rw [tuple_cps]
    simp only [List.map_cons, List.map_nil, tuple_cps, shownAll_rows h]
    unfold tupL
    simp [joinL, tiL]
  have e1 := congrArg (fun z : Str => z.cps.toList) e
  simp only [key hr, key hu] at e1
  injection e1 with _ e1
  obtain ⟨e2, e1⟩ := split1 (tiL_free ⟨by omega, by omega⟩) (tiL_free ⟨by omega, by omega⟩) e1
  injection e1 with _ e1
  exact ⟨tiL_inj hn hm e2, rows_inj hr hu e1⟩
end Z
set_option Elab.async false
set_option linter.all false
set_option maxRecDepth 100000
namespace Z
open PySem PySem.Spec L2 StX
open PyProof.Rows hiding St
section
variable {X : Cx} {T : List (Addr × Str)} {e : Expr} {es : List Expr} {te : TEp} {t : TAp} {pos p : Pos}
/-! [a, *xs] -/
def tStarP (te : TEp) (t : TAp) : TAp := fun η P => te η fun x η1 => match x with
  | .lst xs => t η1 fun ys η2 => P (xs ++ ys) η2
  | .tup xs => t η1 fun ys η2 => P (xs ++ ys) η2
  | _ => False
theorem za_star (he : PE X e (up X.K T te)) (hr : PA X es (upA X.K T t)) (hs : starEach (.Starred e p :: es) X.env = (true, eval e X.env) :: starEach es X.env := by rfl) : PA X (.Starred e p :: es) (upA X.K T (tStarP te t)) := by
  refine PA.weak (pa_star he hr hs) fun σ H Q q => ?_
  obtain ⟨F, η, P, R, h, k⟩ := q
  refine ⟨F, η, _, R, h, fun x η1 v H1 h1 e1 R1 r1 => ?_⟩
  split at h1
  · obtain ⟨a, vs, rfl, n, q, rr⟩ := r1.lst_
    exact ⟨a, vs, rfl, .inr (SqL.of q), F, η1, _, R1, h1, fun ys η2 ws H2 h2 e2 R2 r2 => k _ η2 _ H2 h2 (e1.trans e2) R2 ((rr.car e2.car).app r2)⟩
  · obtain ⟨a, vs, rfl, q, rr⟩ := r1.tup_
    exact ⟨a, vs, rfl, .inl q.sq, F, η1, _, R1, h1, fun ys η2 ws H2 h2 e2 R2 r2 => k _ η2 _ H2 h2 (e1.trans e2) R2 ((rr.car e2.car).app r2)⟩
  · cases h1
/-! f-strings -/
def tFmtP (te : TEp) : TEp := fun η P => te η fun x η1 => match x with
  | .str y => y.length ≤ sizeLine ∧ P (.str y) η1
  | .int i => i.natAbs.log2 < 1920 ∧ P (.str (toString i)) η1
  | _ => False
theorem z_fmt (he : PE X e (up X.K T te)) : PE X (.FormattedValue e (-1) none pos) (up X.K T (tFmtP te)) := by
  refine PE.weak (pe_fmt he) fun σ H Q q => ?_
  obtain ⟨F, η, P, R, h, k⟩ := q
  refine ⟨F, η, _, R, h, fun x η1 v H1 h1 e1 R1 r1 => ?_⟩
  split at h1
  · exact .inl ⟨_, r1.str_, h1.1, k _ η1 _ H1 h1.2 e1 R1 (by unfold Rep; rfl)⟩
  · exact .inr ⟨_, r1.int_, h1.1, k _ η1 _ H1 h1.2 e1 R1 (by unfold Rep; rfl)⟩
  · cases h1
def tJsP : List TEp → Str → EP' → (Str → EP' → Prop) → Prop
  | [], acc, η, P => P acc η
  | t :: ts, acc, η, P => t η fun x η1 => ∃ y : Str, x = .str y ∧ (acc ++ y).length ≤ sizeLine ∧ tJsP ts (acc ++ y) η1 P
def tJoinedP (ts : List TEp) : TEp := fun η P => tJsP ts Str.empty η fun out η' => P (.str out) η'
theorem js_up {K : PySem.W.Frag} {F : Addr → Prop} {σ : St} : ∀ (ts : List TEp) (acc : Str) (η : EP') (H : Hp) (P : Str → EP' → Prop) (Q : Str → Hp → Prop), Rs K T F σ η H → tJsP ts acc η P →
    (∀ out η' H', P out η' → Ext σ η σ η' H H' → Rs K T F σ η' H' → Q out H') → tJs (ts.map (up K T)) acc σ H Q
  | [], acc, η, H, P, Q, R, h, k => k acc η H h .refl R
  | t :: ts, acc, η, H, P, Q, R, h, k => by
    refine ⟨F, η, _, R, h, fun x η1 v H1 h1 e1 R1 r1 => ?_⟩
    obtain ⟨y, rfl, hz, h1⟩ := h1
    exact ⟨y, r1.str_, hz, js_up ts _ η1 H1 P Q R1 h1 fun out η' H' p e2 R2 => k out η' H' p (e1.trans e2) R2⟩
theorem z_js {v1 v2 : Expr} {rest : List Expr} {ts : List TEp} (h : PJ X (v1 :: v2 :: rest) (ts.map (up X.K T))) : PE X (.JoinedStr (v1 :: v2 :: rest) pos) (up X.K T (tJoinedP ts)) := by
  refine PE.weak (pe_joined h) fun σ H Q q => ?_
  obtain ⟨F, η, P, R, h, k⟩ := q
  exact js_up ts Str.empty η H _ _ R h fun out η' H' p e1 R1 => k _ η' _ H' p e1 R1 (by unfold Rep; rfl)
/-! slices of tuples, also whole -/
def rSlA : PV → Option Int → Option Int → (PV → Prop) → Prop := fun x lo hi P => match x with
  | .tup xs => P (.tup (cutP xs lo hi))
  | _ => False
theorem cut_whole {α : Type} {xs : List α} {lo hi : Option Int} (h : HT.sIx xs.length 0 lo = 0 ∧ HT.sIx xs.length xs.length hi = xs.length) : cutP xs lo hi = xs := by
  unfold cutP
  rw [h.1, h.2, List.drop_zero, Nat.sub_zero, List.take_length]
theorem zl_slA : SlR X (fun x lo hi H Q => ∃ O px P, Trk O H ∧ Rep X.K O H px x ∧ rSlA px lo hi P ∧ Out X.K O H P Q) := by
  refine SlR.weak (sl_tupA (X := X)) fun x lo hi H Q h => ?_
  obtain ⟨O, px, P, tr, hx, h, k⟩ := h
  unfold rSlA at h
  split at h
  · rename_i xs
    have hx' := hx
    obtain ⟨a, vs, rfl, q, rr⟩ := hx.tup_
    refine ⟨a, vs, rfl, q.sq, fun w => ?_, fun _ p hp => k.newT h tr (cut_reps rr) hp⟩
    rw [rr.len] at w
    rw [cut_whole w] at h
    exact k _ _ H h (fun _ _ z => z) hx'
  · cases h
def tSliceAP (te : TEp) (tl th : TOp) : TEp := fun η P => te η fun x η1 => tl η1 fun l η2 => th η2 fun u η3 => rSlA x l u fun z => P z η3
theorem z_sliceA {lo hi : Option Expr} {tl th : TOp} {p2 : Pos} (he : PE X e (up X.K T te)) (hl : PO X lo (upO X.K T tl)) (hu : PO X hi (upO X.K T th)) : PE X (.Subscript e (.Slice lo hi none p2) pos) (up X.K T (tSliceAP te tl th)) := by
  refine PE.weak (pe_slice zl_slA he hl hu) fun σ H Q q => ?_
  obtain ⟨F, η, P, R, h, k⟩ := q
  refine ⟨F, η, _, R, h, fun x η1 v H1 h1 e1 R1 r1' => ⟨F, η1, _, R1, h1, fun l η2 H2 h2 e2 R2' => ⟨F, η2, _, R2', h2, fun u η3 H3 h3 e3 R3 => ?_⟩⟩⟩
  exact ⟨Oof F σ η3, x, _, R3.trO, (r1'.car e2.car).car e3.car, h3, fun z u H4 pz s rz => k z η3 u H4 pz (((e1.trans e2).trans e3).trans (.same s)) (R3.same s) rz⟩
end
theorem reps_rev {K : PySem.W.Frag} {O : Addr → Prop} {H : Hp} : ∀ {zs : List PV} {vs : List V}, Reps K O H zs vs → Reps K O H zs.reverse vs.reverse
  | [], _, h => by cases h.inv0; exact .nil
  | x :: xs, _, h => by
    obtain ⟨v, us, rfl, r, t⟩ := h.inv
    rw [List.reverse_cons, List.reverse_cons]
    exact (reps_rev t).app (.cons r .nil)
theorem vals_rev : ∀ {zs : List V} {ws : List Value}, Vals zs ws → Vals zs.reverse ws.reverse
  | _, _, .nil => .nil
  | _, _, .cons r t => by
    rw [List.reverse_cons, List.reverse_cons]
    exact (vals_rev t).append (.cons r .nil)
/-! name = [..] on one line -/
theorem val_weak {K : PySem.W.Frag} {T : List (Addr × Str)} {tf : TFp} {σ : St} {H : Hp} {Q : VK} (q : up K T (tValP tf) σ H Q) : upF K T tf σ H Q := by
  obtain ⟨F, η, P, R, h, k⟩ := q
  refine ⟨F, η, _, R, h, fun xs η' a vs H' h1 e1 R1 hn nf hv r => ?_⟩
  refine k _ _ _ _ h1 e1 (R1.shrink fun b z => .inl z) ?_
  unfold Rep
  refine ⟨a, vs, rfl, fun z => ?_, hv, r.mono fun b z => z.elim (fun z => .inl (.inl z)) .inr⟩
  rcases z with z | ⟨j, p, h1, h2⟩
  · exact nf z
  · obtain ⟨b, q1, q2, q3⟩ := R1.ow j p h2
    rw [h1] at q1; cases q1
    exact q3 (.inr rfl)
theorem z_setLc {X : Cx} {T : List (Addr × Str)} {y : Str} {py : Pos} {elt tg iter : Expr} {ifs : List Expr} {scope : Scope} {own : List (Str × Nat)} {pos spos : Pos} {i : Nat} {ti : TIp} {g : TGp} {tt : TTp} {te : TEp}
    (pf : PS X (.Assign [.Name y py] (.ListComp elt [⟨tg, iter, ifs, 0⟩] scope pos) spos) (tAsg (tLc (upI X.K T ti) (upGw X.K T (own.map (·.2)) g) (upB X.K T tt) (up X.K T te) (own.map (·.2))) (gName i))) :
    PS X (.Assign [.Name y py] (.ListComp elt [⟨tg, iter, ifs, 0⟩] scope pos) spos) (upS X.K T (tSetP i (tValP (tLcP ti g tt te (own.map (·.2)))))) := by
  refine PS.weak pf fun D σ H q => lc_weak (val_weak ?_)
  obtain ⟨F, η, D', R, h, k1, k2, k3, k4⟩ := q
  exact ⟨F, η, _, R, h, fun x η1 v H1 h1 e1 R1 r => k1 _ _ _ h1 (e1.trans .setv) (R1.setv r)⟩
end Z
set_option Elab.async false
set_option linter.all false
set_option maxRecDepth 100000
namespace Z
open PySem PySem.Spec L2 GenW
open PyProof.Rows hiding St
/-! ### a for in a generator's body -/
section
variable {prog : Program} {w : World} {A : Around} {R : GenEnd} {Y : Protocol} {n : Nat} {s0 : Shared} {fs : List Frame} {s : Shared} {env : Env}
abbrev outBy (env : Env) (x : Value) : Sem PySem.Fin := (do noteFrame x env; theTreesLotGoes x : Sem Unit).wrap (fun _ => .raise x) .raise id id
abbrev turnEnd (c : Code) : Flow → Sem PySem.Fin := fun f => match f with
  | .next | .cont => .pure (.again c)
  | .brk => .pure (.done .next)
  | .ret v => .pure (.done (.ret v))
theorem outBy_eq {x : Value} : (((do noteFrame x env; theTreesLotGoes x : Sem Unit).bind fun _ => (.raise x : Sem PySem.Fin))) = outBy env x := by rw [Sem.bind_eq_wrap]
theorem seg_forTurn {tg : Expr} {it : Value} {body : List Stmt}
    (h : wpAny (model prog w) (A.over (.forLoop tg it body [] env) fs) (pyNext it) (fun r s1 => match r with
      | none => Seg (model prog w) A R Y n s0 (.forLoop tg it body [] env) (.pure (.again (.block [] env))) fs s1
      | some v => wpAny (model prog w) (A.over (.forLoop tg it body [] env) fs) (letOwnedTupleGo tg it v) (fun _ s2 => wpAny (model prog w) (A.over (.forLoop tg it body [] env) fs) (assign tg env v) (fun _ s3 =>
          Seg (model prog w) A R Y n s0 (.forLoop tg it body [] env) ((execs body env).wrap (turnEnd (.forLoop tg it body [] env)) (outBy env) id id) fs s3)
          (fun x s' => Seg (model prog w) A R Y n s0 (.forLoop tg it body [] env) (outBy env x) fs s') s2) (fun x s' => Seg (model prog w) A R Y n s0 (.forLoop tg it body [] env) (outBy env x) fs s') s1)
      (fun x s' => Seg (model prog w) A R Y n s0 (.forLoop tg it body [] env) (outBy env x) fs s') s) :
    Seg (model prog w) A R Y n s0 (.forLoop tg it body [] env) ((model prog w).den (.forLoop tg it body [] env)) fs s := by
  show Seg _ A R Y n s0 _ ((forTurn tg it body [] env).onRaise fun x => do noteFrame x env; theTreesLotGoes x) fs s
  unfold forTurn
  rw [Sem.onRaise_eq_wrap, Sem.bind_eq_wrap', Sem.wrap_wrap]
  have ex : ∀ {x : Value} {s' : Shared}, Seg (model prog w) A R Y n s0 (.forLoop tg it body [] env) (outBy env x) fs s' → Seg (model prog w) A R Y n s0 (.forLoop tg it body [] env) ((do noteFrame x env; theTreesLotGoes x : Sem Unit).bind fun _ => (.raise x : Sem PySem.Fin)) fs s' := fun hx => by
    rw [outBy_eq]; exact hx
  refine seg_wrap (wpAny_standAt ?_)
  rw [Sem.bind_eq_wrap', Sem.wrap_wrap]
  refine seg_wrap (wpAny_onRaise (wpAny_mono h (fun r s1 h1 => ?_) fun x s' hx => wpAny_standAt (ex hx)))
  cases r with
  | none => exact h1
  | some v =>
    show Seg _ A R Y n s0 _ (Sem.wrap _ _ _ _ (letOwnedTupleGo tg it v >>= fun _ => _)) fs s1
    rw [Sem.bind_eq_wrap', Sem.wrap_wrap]
    refine seg_wrap (wpAny_mono h1 (fun _ s2 h2 => ?_) fun x s' hx => ex hx)
    show Seg _ A R Y n s0 _ (Sem.wrap _ _ _ _ (assign tg env v >>= fun _ => _)) fs s2
    rw [Sem.bind_eq_wrap', Sem.wrap_wrap]
    refine seg_wrap (wpAny_mono h2 (fun _ s3 h3 => ?_) fun x s' hx => ex hx)
    show Seg _ A R Y n s0 _ (Sem.wrap _ _ _ _ (execs body env >>= fun _ => _)) fs s3
    rw [Sem.bind_eq_wrap', Sem.wrap_wrap]
    refine Eq.mpr (congrArg (fun t => Seg (model prog w) A R Y n s0 (.forLoop tg it body [] env) t fs s3) (Sem.wrap_congr (execs body env) (K' := turnEnd (.forLoop tg it body [] env)) (H' := outBy env) id id (fun f => ?_) (fun e => ?_))) h3
    · cases f <;> rfl
    · exact outBy_eq
theorem seg_ForS {c : Code} {tg iter : Expr} {body : List Stmt} {pos : Pos} {K : Flow → Sem PySem.Fin} {J : Value → Sem PySem.Fin} {gd : Bool → Bool} {lv : List Value → List Value} (hs : ∀ x, foldedSetIterable iter env x = pure x)
    (h : wpAny (model prog w) (A.over c fs) (eval iter env) (fun x s1 => wpAny (model prog w) (A.over c fs) (pyIter x) (fun it s2 => ∀ p, Seg (model prog w) A R Y n s0 (.forLoop tg it body [] env) ((model prog w).den (.forLoop tg it body [] env))
        (.ret (fun r => ((match r with | .ok f => (.pure f : Sem Flow) | .error e => .raise e).onRaise (cameBack env)).wrap K J gd lv) none (gd false) (lv []) c p [] :: fs) s2)
        (fun x s' => Seg (model prog w) A R Y n s0 c (J x) fs s') s1) (fun x s' => Seg (model prog w) A R Y n s0 c (J x) fs s') s) :
    Seg (model prog w) A R Y n s0 c ((exec (.For tg iter body [] pos) env).wrap K J gd lv) fs s := by
  rw [exec_For]
  show Seg _ A R Y n s0 c (Sem.wrap _ _ _ _ (standAt pos >>= fun _ => _)) fs s
  rw [Sem.bind_eq_wrap', Sem.wrap_wrap]
  refine seg_wrap (wpAny_standAt ?_)
  show Seg _ A R Y n s0 c (Sem.wrap _ _ _ _ (eval iter env >>= fun _ => _)) fs s
  rw [Sem.bind_eq_wrap', Sem.wrap_wrap]
  refine seg_wrap (wpAny_mono h (fun x s1 h1 => ?_) fun x s' hx => hx)
  show Seg _ A R Y n s0 c (Sem.wrap _ _ _ _ (foldedSetIterable iter env x >>= fun _ => _)) fs s1
  rw [Sem.bind_eq_wrap', Sem.wrap_wrap]
  refine seg_wrap (wpAny_of_eq (hs x) ?_)
  show Seg _ A R Y n s0 c (Sem.wrap _ _ _ _ (standAt iter.pos >>= fun _ => _)) fs s1
  rw [Sem.bind_eq_wrap', Sem.wrap_wrap]
  refine seg_wrap (wpAny_standAt ?_)
  show Seg _ A R Y n s0 c (Sem.wrap _ _ _ _ (holding [x] (pyIter x) >>= fun _ => _)) fs s1
  rw [Sem.bind_eq_wrap', Sem.wrap_wrap]
  refine seg_wrap (wpAny_holding (wpAny_mono h1 (fun it s2 h2 => ?_) fun x s' hx => hx))
  exact seg_call h2
end
section
variable {X : Cx}
def tGForE (wi : TI) (g : TG) (tb : TGn) : TGn := fun D ys σ H => wi σ H fun J H1 => ∃ W : Nat → Nat → List V → St → Hp → Prop, (∃ m, W 0 m ys σ H1) ∧ ∀ i m ys σ H, W i m ys σ H →
  (J.stop i H ∧ D.nx ys σ H) ∨ (J.go i H ∧ ∃ N : List V → St → Hp → Prop, (∀ ys' σ' H', N ys' σ' H' → ∃ m', m' < m ∧ W (i + 1) m' ys' σ' H') ∧ ∀ x H', J.yld i H x H' → g x σ H' fun σ2 H2 => tb { D with nx := N, ct := N, bk := D.nx } ys σ2 H2)
theorem gi_unpin {S : Addr} {ip pl : List (Addr × Obj)} {ys : List V} {σ : St} {H : Hp} {s : Shared} (h : GI X S (ip ++ pl) ys σ H s) : GI X S ip ys σ H s := by
  obtain ⟨acc, c, r, I⟩ := h
  exact ⟨acc, c, r, Inv.unpinned (pins := (S, lstObj acc c) :: ip) (pl := pl) I⟩
theorem gs_for {tg iter : Expr} {body : List Stmt} {wi : TI} {g : TG} {tb : TGn} {pos : Pos} (hp : PassesOwn (model X.prog X.w) X.A X.env X.xe) (hc : X.calm = true) (hi : PI X tg iter wi) (hg : PG X tg g) (hb : GSs X body tb)
    (hs : ∀ x, foldedSetIterable iter X.env x = pure x := by intro _; rfl) : GS X (.For tg iter body [] pos) (tGForE wi g tb) := by
  refine ⟨fun A S ip R n ys s0 c fs K J gd lv s σ H D gc hn k hI ht => ?_⟩
  obtain ⟨acc0, cc0, r0, I0⟩ := hI
  refine seg_ForS hs ?_
  rw [gc.over]
  refine wpAny_mono (hi.run _ s σ H _ I0 ht) (fun v s1 h1 => wpAny_mono h1 (fun itv s2 h2 => ?_) fun x s' hx => k.exc n s0 x s' hx) fun x s' hx => k.exc n s0 x s' hx
  obtain ⟨it, fp, tn, Jt, H2, e, I2, T, st2, f2, W, ⟨m0, w0⟩, turn⟩ := h2
  subst e
  intro p
  have stat : ∀ {H' : Hp} {acc : Array Value} {cc : Nat}, (∀ b ∈ fp, H' b = none) → ∀ b ∈ fp, FpOk X ((S, lstObj acc cc) :: ip) H' b := fun {H' acc cc} hn b hb => by
    obtain ⟨_, a1, a2, a3, a4, a5⟩ := f2 b hb
    refine ⟨hn b hb, a1, a2, a3, a4, fun q hq => ?_⟩
    rcases List.mem_append.mp hq with z | z
    · exact a5 q (List.mem_append_left _ z)
    · rcases List.mem_cons.mp z with z | z
      · rw [z]
        exact a5 (S, lstObj acc0 cc0) (List.mem_append_right _ List.mem_cons_self)
      · exact a5 q (List.mem_append_right _ (List.mem_cons_of_mem _ z))
  have gl := fun (kk : Result → Sem PySem.Fin) => gc_loop (k := kk) (c' := .forLoop tg (.ref it) body [] X.env) (l := lv []) (kp := []) (p := p) gc rfl rfl
  have loop : ∀ (m i n : Nat) (ys : List V) (s0 s : Shared) (σ : St) (H : Hp), n + ys.length = sizeLine → W i m ys σ H → GI X S ip ys σ H s → tn i s.heap → (∀ b ∈ fp, H b = none) →
      Seg (model X.prog X.w) A R (GY X S) n s0 (.forLoop tg (.ref it) body [] X.env) ((model X.prog X.w).den (.forLoop tg (.ref it) body [] X.env))
        (.ret (fun r => ((match r with | .ok f => (.pure f : Sem Flow) | .error e => .raise e).onRaise (cameBack X.env)).wrap K J gd lv) none (gd false) (lv []) c p [] :: fs) s := by
    intro m
    induction m using Nat.strongRecOn with
    | ind m ih =>
      intro i n ys s0 s σ H hn w hI st fr
      have ee : ∀ (n : Nat) (s0 : Shared) (x : Value) (s' : Shared), X.xe x s' → Seg (model X.prog X.w) A R (GY X S) n s0 (.forLoop tg (.ref it) body [] X.env) (outBy X.env x)
          (.ret (fun r => ((match r with | .ok f => (.pure f : Sem Flow) | .error e => .raise e).onRaise (cameBack X.env)).wrap K J gd lv) none (gd false) (lv []) c p [] :: fs) s' := fun n s0 x s' hx => by
        refine seg_wrap ?_
        rw [(gl _).over]
        refine wpAny_bind (wpAny_mono (hp x s' hx) (fun _ s'' hcb => wpAny_theTreesLotGoes ?_) fun y s'' hcb => ?_)
        · exact seg_leaf (.error x) (seg_cameBack gc k hcb)
        · exact seg_leaf (.error y) (seg_cameBack gc k hcb)
      refine seg_forTurn ?_
      simp only [(gl _).over]
      obtain ⟨acc, cc, r, I⟩ := hI
      rcases turn i m ys σ H w with ⟨stop, q⟩ | ⟨go, N, hN, step⟩
      · refine wpAny_mono (T.done X rfl rfl rfl hc i _ s σ H X.xe I (stat fr) st stop) (fun rr s4 ⟨hr, I4⟩ => ?_) fun x s' hx => ee n s0 x s' hx
        subst hr
        refine seg_again rfl ?_
        show Seg _ A R (GY X S) n s0 _ ((execs [] X.env).onRaise _ >>= fun f => _) _ s4
        rw [Sem.onRaise_eq_wrap, Sem.bind_eq_wrap', Sem.wrap_wrap]
        exact seg_execs_nil (seg_leaf (.ok .next) (k.ok n ys s0 s4 .next hn ⟨σ, H, ⟨acc, cc, r, I4⟩, q⟩))
      · refine wpAny_mono (T.item X rfl rfl rfl hc i _ s σ H X.xe I (stat fr) st go) (fun rr s4 ⟨u, hr, h4⟩ => ?_) fun x s' hx => ee n s0 x s' hx
        subst hr
        refine wpAny_mono h4 (fun _ s5 ⟨x, H5, I5, r5, y5, st5, fr5⟩ => ?_) fun x s' hx => ee n s0 x s' hx
        have I5' := I5.pinned (stat fr5) (T.obj _ _ st5)
        refine wpAny_mono (hg.run _ s5 σ H5 x u _ I5' r5 (step x H5 y5)) (fun _ s6 ⟨σ6, H6, I6, q6⟩ => ?_) fun x s' hx => ee n s0 x s' hx
        have hip : ∀ q ∈ ip ++ pinsAt fp s5.heap, q.1 ≠ S := fun q hq => by
          rcases List.mem_append.mp hq with z | z
          · exact gc.ip q z
          · obtain ⟨_, _, _, _, _, a5⟩ := f2 q.1 (of_pinsAt z).1
            exact fun e => a5 (S, lstObj acc0 cc0) (List.mem_append_right _ List.mem_cons_self) e.symm
        have gl2 : ∀ kk : Result → Sem PySem.Fin, GC X S (ip ++ pinsAt fp s5.heap) A (.forLoop tg (.ref it) body [] X.env) (.ret kk none (gd false) (lv []) c p [] :: fs) id := fun kk => { gl kk with ip := hip }
        refine hb.run A S (ip ++ pinsAt fp s5.heap) R n ys s0 _ _ _ _ id id s6 σ6 H6 { D with nx := N, ct := N, bk := D.nx } (gl2 _) hn ⟨fun n' ys' s0' s7 f hn' hsp => ?_, fun n' s0' x s3 hx => ee n' s0' x s3 hx⟩ ⟨acc, cc, r, I6⟩ q6
        have again : ∀ {σ7 : St} {H7 : Hp}, GI X S (ip ++ pinsAt fp s5.heap) ys' σ7 H7 s7 → N ys' σ7 H7 → Seg (model X.prog X.w) A R (GY X S) n' s0' (.forLoop tg (.ref it) body [] X.env) (.pure (.again (.forLoop tg (.ref it) body [] X.env)))
            (.ret (fun r => ((match r with | .ok f => (.pure f : Sem Flow) | .error e => .raise e).onRaise (cameBack X.env)).wrap K J gd lv) none (gd false) (lv []) c p [] :: fs) s7 := fun {σ7 H7} I7 n7 => by
          obtain ⟨m', hm, w7⟩ := hN ys' σ7 H7 n7
          obtain ⟨acc7, cc7, r7, J7⟩ := id I7
          refine seg_again rfl (ih m' hm (i + 1) n' ys' s0' s7 σ7 H7 hn' w7 (gi_unpin I7) (T.keep _ _ _ st5 fun b hb o e => ?_) fun b hb => ?_)
          · exact (J7.pin (b, o) (List.mem_append_right _ (List.mem_cons_of_mem _ (List.mem_append_right _ (mem_pinsAt hb e))))).1
          · obtain ⟨o, e, d⟩ := T.obj _ _ st5 b hb
            exact (J7.pin (b, o) (List.mem_append_right _ (List.mem_cons_of_mem _ (List.mem_append_right _ (mem_pinsAt hb e))))).2.1
        cases f with
        | next => obtain ⟨σ7, H7, I7, n7⟩ := hsp; exact again I7 n7
        | cont => obtain ⟨σ7, H7, I7, n7⟩ := hsp; exact again I7 n7
        | brk => obtain ⟨σ7, H7, I7, q7⟩ := hsp; exact seg_leaf (.ok .next) (k.ok n' ys' s0' s7 .next hn' ⟨σ7, H7, gi_unpin I7, q7⟩)
        | ret v => obtain ⟨x7, σ7, H7, I7, rv7, q7⟩ := hsp; exact seg_leaf (.ok (.ret v)) (k.ok n' ys' s0' s7 (.ret v) hn' ⟨x7, σ7, H7, gi_unpin I7, rv7, q7⟩)
  exact loop m0 0 n ys s0 s2 σ H2 hn w0 ⟨acc0, cc0, r0, I2⟩ st2 fun b hb => (f2 b hb).1
end
end Z
set_option Elab.async false
set_option linter.all false
set_option maxRecDepth 100000
namespace Z
open PySem PySem.Spec L2 GenW
open PyProof.Rows hiding St
/-! ### a generator method that hands out what a field holds -/
/-- what the method promises: the items of the tuple in the field fl of its object -/
def spField (K : PySem.W.Frag) (C : Addr) (fl : Str) : SpG := fun vs H cont _ => ∃ a dx fs q qs, vs = [.ref a] ∧ H a = some (.ins C dx fs) ∧ fs.lookup fl = some (.ref q) ∧ SqT K H q qs ∧ qs.length < 1000 ∧ cont qs H
theorem wfor_field {X : Cx} {C a q : Addr} {fl : Str} {qs : List V} {H : Hp} {cont : List V → Hp → Prop} {dx : Addr} {fs : List (Str × V)} (hH : H a = some (.ins C dx fs)) (hf : fs.lookup fl = some (.ref q)) (hq : SqT X.K H q qs) (hl : qs.length < 1000) (c : Cls X.K C) (n : NoAttr X.K C fl) (hc : cont qs H) :
    tGThen (tGForE (iTup X.K (tFld X.K (tVar 0) fl)) (gName 1) (tGThen (tGYield (tVar 1)) tG0)) tG0 { nx := fun ys _ H' => cont ys H', rt := fun ys v H' => v = .non ∧ cont ys H' } [] [some (.ref a), none] H := by
  have sz : 1000 < sizeLine := by decide
  refine ⟨.ref a, rfl, a, C, dx, fs, .ref q, rfl, hH, c, n, hf, q, rfl, ⟨qs, hq⟩, ?_⟩
  refine ⟨fun i m ys σ H' => m = qs.length - i ∧ i ≤ qs.length ∧ ys = qs.take i ∧ (∃ r, σ = [some (.ref a), r]) ∧ H' = H, ⟨qs.length, rfl, Nat.zero_le _, rfl, ⟨none, rfl⟩, rfl⟩, ?_⟩
  rintro i m ys σ H' ⟨rfl, hi, rfl, ⟨r, rfl⟩, rfl⟩
  by_cases hlt : i < qs.length
  · refine .inr ⟨⟨qs, qs[i], hq, by simp [hlt]⟩, fun ys' σ' H'' => ys' = qs.take (i + 1) ∧ (∃ r, σ' = [some (.ref a), r]) ∧ H'' = H', ?_, ?_⟩
    · rintro ys' σ' H'' ⟨rfl, ⟨r, rfl⟩, rfl⟩
      exact ⟨qs.length - (i + 1), by omega, rfl, hlt, rfl, ⟨_, rfl⟩, rfl⟩
    · rintro x H'' ⟨rfl, hx⟩
      have hxi := hx qs hq
      refine ⟨by rw [List.length_take]; omega, x, rfl, ?_, ⟨_, rfl⟩, rfl⟩
      rw [List.take_succ, hxi]
      rfl
  · have e : i = qs.length := by omega
    subst e
    exact .inl ⟨⟨qs, hq, Nat.le_refl _⟩, by rw [List.take_length]; exact hc⟩
theorem gfn_walk {P : Program} {w : World} {K : PySem.W.Frag} {mg : Str → Option Value} {base : Heap} {x qual : Str} {st : Stmt} {f C : Addr} {fd : FuncData} {fl : Str} (F : Fun K x qual st f fd) (S : GScope ["self", "row"] ["self"] (defScope st)) (c : Cls K C) (n : NoAttr K C fl) (k : Nat)
    (hb : ∀ (cdv : Value) (A : Around) (outer : List Env) (s : Shared) (H : Hp) (E : XK) (pn : List (Addr × Obj)), GSs (gcxOf P w K mg base ["self", "row"] qual (defScope st) f cdv A outer s H E pn) (defBody st) (tGThen (tGForE (iTup K (tFld K (tVar 0) fl)) (gName 1) (tGThen (tGYield (tVar 1)) tG0)) tG0)) :
    GFn P w K mg base (k + 1) f fd ["self"] (spField K C fl) := by
  obtain ⟨oc, od, kV, doc, pm, an, cdv, ct, osl, rfl, lk, hcd⟩ := F.ex
  refine gfn_of lk hcd S (fun vs H Q E h => ?_) fun A outer s H vs Q E pn hr h => ?_
  · obtain ⟨a, dx, fs, q, qs, rfl, _⟩ := h; rfl
  · obtain ⟨a, dx, fs, q, qs, rfl, hH, hf, hq, hl, hc⟩ := h
    exact ⟨_, hb cdv A outer s H E pn, wfor_field (X := gcxOf P w K mg base ["self", "row"] qual (defScope st) f cdv A outer s H E pn) hH hf hq hl c n hc⟩
/-! list(o.m()) over plain values -/
section
variable {X : Cx} {T : List (Addr × Str)} {k : Nat} {C f : Addr} {fd : FuncData} {o : Expr} {ta : TEp} {m fl nm : Str} {pos pos' apos p : Pos}
theorem passCX : Passes (CX X.prog X.w) X E0 := fun _ _ _ _ _ _ _ h => by
  obtain ⟨a, B, H', cls, d, _, _, _, _, _, _, _, z⟩ := h
  exact z.elim
def tListWP (C : Addr) (m fl : Str) (ta : TEp) : TEp := fun η P => ta η fun x η1 => ∃ fs qs, x = .ins C fs ∧ fs.lookup m = none ∧ fs.lookup fl = some (.tup qs) ∧ qs.length < 1000 ∧ P (.lst qs) η1
theorem z_listW {pl : Sem Bool} (ho : PE X o (up X.K T ta)) (c : Cls X.K C) (hm : Meth X.K C m f) (G : GFn X.prog X.w X.K X.mg X.base k f fd ["self"] (spField X.K C fl)) (hr : Room (k + 3) X.A) (hb : Binds X.K fd ["self"] []) (hg : Gl X nm) (hmg : X.mg nm = none) (hv : bootBuiltins nm = some (.type "list"))
    (hnm : nm ≠ "__name__" := by decide) (hdb : (nm == ("__debug__" : Str)) = false := by decide)
    (ht : eval (.Call (.Attribute o m apos) [] [] pos') X.env = (do
      let ov ← eval o X.env
      standAt apos.atName
      let (f, first) ← holding [ov] (getMethod ov m pl)
      callWith pos' f first (backTo pos' (starEach [] X.env)) (backToKw pos' (keywordEach [] X.env))) := by rfl)
    (he : starEach [.Call (.Attribute o m apos) [] [] pos'] X.env = (false, eval (.Call (.Attribute o m apos) [] [] pos') X.env) :: starEach [] X.env := by rfl) :
    PE X (.Call (.Name nm p) [.Call (.Attribute o m apos) [] [] pos'] [] pos) (up X.K T (tListWP C m fl ta)) := by
  refine PE.weak (pe_listG (E := E0) (pgen_meth0 (pl := pl) ho c hm G (hr.mono (Nat.le_add_right _ _)) hb .nil ht) passCX (fun _ _ _ z => z.elim) hr hg hmg hv hnm hdb he) fun σ H Q q => ?_
  obtain ⟨F, η, P, R, h, kk⟩ := q
  refine ⟨F, η, _, R, h, fun x η1 v H1 h1 e1 R1 r1 => ?_⟩
  obtain ⟨fs, qs, rfl, l1, l2, hl, h1⟩ := h1
  obtain ⟨a, dx, ws, rfl, na, q', rr⟩ := r1.ins_
  obtain ⟨w, hw, rw'⟩ := (rr.look fl).1 _ l2
  obtain ⟨b, vs, rfl, hq, rv⟩ := rw'.tup_
  refine ⟨a, dx, ws, rfl, q', (rr.look m).2 l1, a, dx, ws, b, vs, rfl, q', hw, hq.sq, by rw [rv.len]; exact hl, fun p hp => ?_⟩
  exact kk _ η1 _ _ h1 (e1.trans (.same (Same.new hp))) (R1.same (Same.new hp)) (rep_newL R1.trO hp rv)
end
end Z
set_option Elab.async false
set_option linter.all false
set_option maxRecDepth 100000
namespace Z
open PySem PySem.Spec L2
open PyProof.Rows hiding St
/-! ### repr(o) by an own __repr__ -/
section
variable {X : Cx} {T : List (Addr × Str)} {k : Nat} {C f : Addr} {fd : FuncData} {ps : List Str} {sp : Sp} {e : Expr} {es : List Expr} {t : TAp} {x : Str} {p pos : Pos}
theorem call_reprO (F : FnOk X.prog X.w X.K X.mg X.base CX0 k f fd ps sp) (hr : Room (k + 1) X.A) (hs : PySem.W.findIn X.K (.ref C) "__repr__" = some (some (.ref f))) (hf : PySem.W.isFn X.K (.ref f) = true) (hb : Binds X.K fd ps []) : CallR X (.builtin "repr") (rStrO C sp) := by
  intro pins s σ H xs us Q I r h
  obtain ⟨a, dx, fs, rfl, ha, hsp⟩ := h
  obtain rfl := Vals.ref1 r
  obtain ⟨mA, J, _⟩ := ins_get I.hok ha
  obtain ⟨od, J, _⟩ := J.look
  obtain ⟨m, hF⟩ := I.fr
  refine PySem.W.repr_K hr.in1.units0 hF I.ok.mod.kin J hs hf ?_
  refine wpAny_mono (run_at F rfl hr.in1 hb I r hsp) (fun v s' ⟨z, H', I', rz, y, ez, q⟩ => ?_) fun _ _ e => e
  subst ez
  obtain ⟨t, rfl⟩ : ∃ t, v = Value.str y t := rz
  exact ⟨.str y, H', I', ⟨t, rfl⟩, q⟩
theorem z_reprO {sp : SpP} (hc : CallR X (.builtin "repr") (rStrO C (upSp X.K T sp))) (hg : Gl X x) (hm : X.mg x = none) (hv : bootBuiltins x = some (.builtin "repr")) (ha : PA X (e :: es) (upA X.K T t)) (hn : x ≠ "__name__" := by decide) (hdb : (x == ("__debug__" : Str)) = false := by decide)
    (he : starEach (e :: es) X.env = (false, eval e X.env) :: starEach es X.env := by rfl) (hpl : (backTo pos (starEach es X.env)).any (·.1) = false := by rfl) : PE X (.Call (.Name x p) (e :: es) [] pos) (up X.K T (tStrOP C sp t)) := by
  refine PE.weak (pe_callB hc hg hm hv ha hn hdb he hpl) fun σ H Q q => ?_
  obtain ⟨F, η, P, R, h, kk⟩ := q
  refine ⟨F, η, _, R, h, fun xs η1 v H1 h1 e1 R1 r1 => ?_⟩
  obtain ⟨fs, rfl, h1⟩ := h1
  obtain ⟨v1, rfl, r2⟩ := r1.one
  obtain ⟨a', dx, ws, rfl, na, q', rr⟩ := id r2.ins_
  exact ⟨a', dx, ws, rfl, q', Oof F σ η1, _, _, R1.trO, R1.tb, .cons r2 .nil, h1, fun z v H3 ⟨⟨y, ez⟩, pz⟩ g tb rz => ⟨y, by rw [ez] at rz; exact rz.str_, kk _ η1 _ H3 pz (e1.trans g.ext) (R1.gr g tb) rz⟩⟩
end
/-! ### max(l, default=d) of ints -/
def intsOf : List PV → Option (List Int)
  | [] => some []
  | .int i :: r => (intsOf r).map (i :: ·)
  | _ => none
theorem intsOf_map : ∀ ns : List Int, intsOf (ns.map .int) = some ns
  | [] => rfl
  | n :: ns => by rw [List.map_cons, intsOf, intsOf_map ns]; rfl
theorem ints_holds {K : PySem.W.Frag} {O : Addr → Prop} {H : Hp} {h : Heap} : ∀ {xs : List PV} {vs : List V} {us : List Value} {ns : List Int}, Reps K O H xs vs → Vals vs us → intsOf xs = some ns → PySem.W.HoldAll h us ns
  | [], _, _, _, r, rv, e => by
    cases r.inv0; cases rv; cases e
    exact .nil
  | x :: xs, _, _, ns, r, rv, e => by
    obtain ⟨v, vs, rfl, r1, r2⟩ := r.inv
    cases rv with
    | cons a b =>
      cases x with
      | int i =>
        rw [intsOf] at e
        obtain ⟨ms, e1, rfl⟩ := Option.map_eq_some_iff.mp e
        rw [r1.int_] at a
        obtain ⟨t, rfl⟩ := a
        exact .cons (PySem.W.holds_int _ _) (ints_holds r2 b e1)
      | _ => cases e
def maxI (d : Int) : List Int → Int
  | [] => d
  | n :: ns => PySem.W.maxOf n ns
def rMaxD : List V → List V → Hp → VK → Prop := fun xs zs H Q => ∃ a vs ns d, xs = [.ref a] ∧ zs = [.int d] ∧ H a = some (.lst vs) ∧ (∀ h : Heap, ∀ us, Vals vs us → PySem.W.HoldAll h us ns) ∧ Q (.int (maxI d ns)) H
section
variable {X : Cx} {T : List (Addr × Str)} {e : Expr} {es : List Expr} {kws : List Keyword} {t tk : TAp} {x : Str} {p pos : Pos}
theorem call_maxD (hc : X.calm = true) (hu : X.A.units + 64 < cLine) : CallRK X (.builtin "max") [("default" : Str)] rMaxD := by
  intro pins s σ H xs zs us ws Q I r rz h
  obtain ⟨a, vs, ns, d, rfl, rfl, ha, hh, q⟩ := h
  obtain rfl := Vals.ref1 r
  cases rz with
  | cons r1 r2 =>
    cases r2
    obtain ⟨t, rfl⟩ := r1
    obtain ⟨_, its, n, rv, eh⟩ := I.hok a _ ha
    have hl : s.heap.IsList a its.toArray := ⟨_, eh, rfl, n, rfl⟩
    refine PySem.W.max_list_datum_default (xs := ns) (I.ok.hd hc) hl (by simpa using hh s.heap its rv) (by show X.A.units + 1 + 0 < cLine; omega) (fun e h' tk k => ?_) fun y ys i v h' tk e hi hv k => ?_
    · subst e
      exact ⟨.int d, H, I.kept k, ⟨_, rfl⟩, q⟩
    · subst e
      obtain ⟨as, rd⟩ := hv
      cases rd with
      | int j t => exact ⟨.int _, H, I.kept k, ⟨_, rfl⟩, q⟩
def tMaxDP (t tk : TAp) : TEp := fun η P => t η fun xs η1 => tk η1 fun zs η2 => ∃ ys ns d, xs = [.lst ys] ∧ zs = [.int d] ∧ intsOf ys = some ns ∧ P (.int (maxI d ns)) η2
theorem z_maxD (hcm : X.calm = true) (hu : X.A.units + 64 < cLine) (hg : Gl X x) (hm : X.mg x = none) (hv : bootBuiltins x = some (.builtin "max")) (ha : PA X (e :: es) (upA X.K T t)) (hk : PK X kws (upA X.K T tk)) (hn : x ≠ "__name__" := by decide) (hdb : (x == ("__debug__" : Str)) = false := by decide)
    (he : backTo pos (starEach (e :: es) X.env) = (false, eval e X.env) :: backTo pos (starEach es X.env) := by rfl) (hpl : (backTo pos (starEach (e :: es) X.env)).any (·.1) = false := by rfl)
    (hall : (backToKw pos (keywordEach kws X.env)).all (·.1.isSome) = true := by rfl) (hnone : (backToKw pos (keywordEach kws X.env)).any (·.1.isNone) = false := by rfl) (hks : (backToKw pos (keywordEach kws X.env)).filterMap (·.1) = [("default" : Str)] := by rfl) :
    PE X (.Call (.Name x p) (e :: es) kws pos) (up X.K T (tMaxDP t tk)) := by
  refine PE.weak (pe_callBK (call_maxD hcm hu) hg hm hv ha hk hn hdb he hpl hall hnone hks) fun σ H Q q => ?_
  obtain ⟨F, η, P, R, h, kk⟩ := q
  refine ⟨F, η, _, R, h, fun xs η1 vs H1 h1 e1 R1 r1 => ⟨F, η1, _, R1, h1, fun zs η2 ws H2 h2 e2 R2 r2 => ?_⟩⟩
  obtain ⟨ys, ns, d, rfl, rfl, hi, h2⟩ := h2
  obtain ⟨v, rfl, rl⟩ := (r1.car e2.car).one
  obtain ⟨v2, rfl, rd⟩ := r2.one
  obtain ⟨a, us, rfl, na, q', rr⟩ := rl.lst_
  rw [rd.int_]
  exact ⟨a, us, ns, d, rfl, rfl, q', fun h us' rv => ints_holds rr rv hi, kk _ η2 _ H2 h2 (e1.trans e2) R2 (by unfold Rep; rfl)⟩
end
end Z
set_option Elab.async false
set_option linter.all false
set_option maxRecDepth 100000
namespace Z
open PySem PySem.Spec L2 StX
open PyProof.Rows hiding St
/-! ### x in l, flat values -/
def flV : PV → Option V
  | .non => some .non
  | .bl b => some (.bl b)
  | .int i => some (.int i)
  | .str z => some (.str z)
  | _ => none
def flVs : List PV → Option (List V)
  | [] => some []
  | x :: r => (flV x).bind fun v => (flVs r).map (v :: ·)
theorem flV_rep {K : PySem.W.Frag} {O : Addr → Prop} {H : Hp} {x : PV} {v w : V} (h : Rep K O H x v) (e : flV x = some w) : v = w ∧ flatV w = true := by
  cases x <;> unfold flV at e <;> cases e
  · exact ⟨h.non_, rfl⟩
  · exact ⟨h.bl_, rfl⟩
  · exact ⟨h.int_, rfl⟩
  · exact ⟨h.str_, rfl⟩
theorem flVs_rep {K : PySem.W.Frag} {O : Addr → Prop} {H : Hp} : ∀ {xs : List PV} {vs ws : List V}, Reps K O H xs vs → flVs xs = some ws → vs = ws ∧ ws.all flatV = true
  | [], _, _, r, e => by cases r.inv0; cases e; exact ⟨rfl, rfl⟩
  | x :: xs, _, ws, r, e => by
    obtain ⟨v, vs, rfl, r1, r2⟩ := r.inv
    rw [flVs] at e
    obtain ⟨u, e1, e2⟩ := Option.bind_eq_some_iff.mp e
    obtain ⟨us, e3, rfl⟩ := Option.map_eq_some_iff.mp e2
    obtain ⟨a1, a2⟩ := flV_rep r1 e1
    obtain ⟨b1, b2⟩ := flVs_rep r2 e3
    exact ⟨by rw [a1, b1], by rw [List.all_cons, a2, b2]; rfl⟩
def itemsOf : PV → Option (List PV)
  | .lst xs => some xs
  | .tup xs => some xs
  | _ => none
def rInL (neg : Bool) : R2p := fun x y P => ∃ v ys vs, flV x = some v ∧ itemsOf y = some ys ∧ flVs ys = some vs ∧ P (.bl (if neg then !inV v vs else inV v vs))
section
variable {X : Cx}
theorem inL_raw {neg : Bool} : ∀ x y H Q, r2 X.K (rInL neg) x y H Q → rIn X.K neg x y H Q := fun x y H Q h => by
  obtain ⟨O, px, py, P, tr, hx, hy, ⟨v, ys, vs, e1, e2, e3, h⟩, k⟩ := h
  obtain ⟨rfl, f1⟩ := flV_rep hx e1
  cases py <;> unfold itemsOf at e2 <;> cases e2
  · obtain ⟨a, us, rfl, q, rr⟩ := hy.tup_
    obtain ⟨rfl, f2⟩ := flVs_rep rr e3
    exact ⟨a, us, rfl, .inr q.sq, f1, f2, k.bl h⟩
  · obtain ⟨a, us, rfl, n, q, rr⟩ := hy.lst_
    obtain ⟨rfl, f2⟩ := flVs_rep rr e3
    exact ⟨a, us, rfl, .inl (SqL.of q), f1, f2, k.bl h⟩
theorem zo_inL : OpR X (compareOp .In) (r2 X.K (rInL false)) := OpR.weak (op_in_seq (X := X)) inL_raw
theorem zo_notInL : OpR X (compareOp .NotIn) (r2 X.K (rInL true)) := OpR.weak (op_notIn_seq (X := X)) inL_raw
end
/-! ### methods with a star parameter -/
/-- the promise of a def(self, *names): the object, the tuple of what is left -/
def upSpV (K : PySem.W.Frag) (T : List (Addr × Str)) (sp : SpP) : Sp := fun vs H Q _ => ∃ F x rest P, Trk F H ∧ LamX.Tabs T H ∧ Reps K F H (x :: rest) vs ∧ rest.length ≤ 5 ∧ sp [x, .tup rest] P ∧ ∀ x v H', P x → Gr H H' → LamX.Tabs T H' → Rep K F H' x v → Q v H'
theorem upSpV_raw {K : PySem.W.Frag} {T : List (Addr × Str)} {sp : SpP} (vs : List V) (H : Hp) (Q : VK) (E : XK) (h : upSpV K T sp vs H Q E) :
    ∃ v rest, vs = v :: rest ∧ rest.length ≤ 5 ∧ ∀ p, H p = none → upSp K T sp [v, .ref p] (upd H p (.tup rest)) Q E := by
  obtain ⟨F, x, rest, P, tr, tb, r, hl, hs, k⟩ := h
  obtain ⟨v, us, rfl, r1, r2⟩ := r.inv
  refine ⟨v, us, rfl, by rw [r2.len]; exact hl, fun p hp => ?_⟩
  have sm : Same H (upd H p (.tup us)) := Same.new hp
  refine ⟨F, [x, .tup rest], P, tr.same sm, tb.ext sm, .cons (r1.car (Car.same sm)) (.cons (rep_newT tr hp r2) .nil), hs, fun z w H' pz g tb' rz => k z w H' pz ⟨fun b o e t => g.keep b o (sm b o e) t, fun b n => g.live b fun q => n fun o e => q o (sm b o e)⟩ tb' rz⟩
section
variable {X : Cx} {T : List (Addr × Str)} {k : Nat} {C f : Addr} {sp : SpP} {m : Str} {o e : Expr} {es : List Expr} {ta : TEp} {t : TAp} {apos pos : Pos}
def tMethVP (C : Addr) (m : Str) (sp : SpP) (ta : TEp) (t : TAp) : TEp := fun η P => ta η fun x η1 => (∃ fs, x = .ins C fs ∧ fs.lookup m = none) ∧ t η1 fun args η2 => args.length ≤ 5 ∧ sp [x, .tup args] fun z => P z η2
theorem methV_up {K : PySem.W.Frag} {σ : St} {H : Hp} {Q : VK} {E : XK} (q : up K T (tMethVP C m sp ta t) σ H Q) : tMethR C m (upSpV K T sp) E (up K T ta) (upA K T t) σ H Q := by
  obtain ⟨F, η, P, R, h, kk⟩ := q
  refine ⟨F, η, _, R, h, fun x η1 v H1 h1 e1 R1 r1 => ?_⟩
  obtain ⟨⟨fs, rfl, hm⟩, h1⟩ := h1
  obtain ⟨a, dx, ws, rfl, na, q, rr⟩ := id r1.ins_
  refine ⟨a, dx, ws, rfl, q, (rr.look m).2 hm, F, η1, _, R1, h1, fun args η2 vs H2 h2 e2 R2 r2 => ?_⟩
  exact ⟨Oof F σ η2, _, args, _, R2.trO, R2.tb, .cons (r1.car e2.car) r2, h2.1, h2.2, fun z v H3 pz g tb rz => kk z η2 v H3 pz ((e1.trans e2).trans g.ext) (R2.gr g tb) rz⟩
theorem z_methV (pf : PE X e (tMethR C m (upSpV X.K T sp) E0 (up X.K T ta) (upA X.K T t))) : PE X e (up X.K T (tMethVP C m sp ta t)) := PE.weak pf fun σ H Q q => methV_up q
/-- o.m() by a positional promise -/
theorem pe_methR0 {CX : CXT} {sp : Sp} {E : XK} {ta : TE} {pl : Sem Bool} (he : PE X o ta) (c : Cls X.K C) (hm : Meth X.K C m f) (F : FnR X.prog X.w X.K X.mg X.base CX k f sp) (hr : Room k X.A) (hx : Passes CX X E)
    (ht : eval (.Call (.Attribute o m apos) [] [] pos) X.env = (do
      let ov ← eval o X.env
      standAt apos.atName
      let (f, first) ← holding [ov] (getMethod ov m pl)
      callWith pos f first (backTo pos (starEach [] X.env)) (backToKw pos (keywordEach [] X.env))) := by rfl) :
    PE X (.Call (.Attribute o m apos) [] [] pos) (tMethR C m sp E ta tNil) := by
  refine ⟨fun pins s σ H Q I h => PySem.W.methodCall_KW (pl := pl) (thn (he.run pins s σ H _ I h) fun u s1 ⟨x, H1, I1, rx, a, dx, fs, ex, ea, l, q⟩ => ?_) ht⟩
  subst ex
  obtain rfl : u = Value.ref a := rx
  exact getmeth_ok I1 ea c hm l (PySem.W.callWith_K0 (first := [.ref a]) I1.kIn hm.kp (wpAny_call (run_fnR (us := [.ref a]) (vs := [V.ref a]) F hr hx I1 (.cons rfl .nil) q)))
/-- o.m(k = v, ..) -/
theorem pe_methK0 {CX : CXT} {sp : Sp} {E : XK} {ta : TE} {tk : TA} {pl : Sem Bool} {fd : FuncData} {ps ks : List Str} {kws : List Keyword} {g : List Value → List Value → List Value} {gV : List V → List V → List V} (he : PE X o ta) (c : Cls X.K C) (hm : Meth X.K C m f)
    (F : FnOk X.prog X.w X.K X.mg X.base CX k f fd ps sp) (hr : Room k X.A) (hb : KBinds X.K fd ps ks g gV) (hx : Passes CX X E) (hkw : PK X kws tk)
    (hall : (backToKw pos (keywordEach kws X.env)).all (·.1.isSome) = true := by rfl) (hks : (backToKw pos (keywordEach kws X.env)).filterMap (·.1) = ks := by rfl)
    (hpl : ((backTo pos (starEach [] X.env)).any (·.1) || (backToKw pos (keywordEach kws X.env)).any (·.1.isNone)) = false := by rfl)
    (ht : eval (.Call (.Attribute o m apos) [] kws pos) X.env = (do
      let ov ← eval o X.env
      standAt apos.atName
      let (f, first) ← holding [ov] (getMethod ov m pl)
      callWith pos f first (backTo pos (starEach [] X.env)) (backToKw pos (keywordEach kws X.env))) := by rfl) :
    PE X (.Call (.Attribute o m apos) [] kws pos) (fun σ H Q => ta σ H fun x H1 => ∃ a dx fs, x = .ref a ∧ H1 a = some (.ins C dx fs) ∧ fs.lookup m = none ∧ tk σ H1 fun zs H2 => sp (gV [.ref a] zs) H2 Q E) := by
  refine ⟨fun pins s σ H Q I h => PySem.W.methodCall_KW (pl := pl) (thn (he.run pins s σ H _ I h) fun u s1 ⟨x, H1, I1, rx, a, dx, fs, ex, ea, l, q⟩ => ?_) ht⟩
  subst ex
  obtain rfl : u = Value.ref a := rx
  refine getmeth_ok I1 ea c hm l ?_
  refine PySem.W.callWith_KW0 (h₀ := X.base) (first := [.ref a]) I1.ok.mod.kin hm.kp hall (thn (hkw.run pos pins s1 σ H1 _ I1 q) fun ws s2 ⟨zs, H2, I2, rz, q2⟩ => ⟨I2.kIn, ?_⟩) hpl
  rw [hks]
  exact run_fnk (us := [.ref a]) (vs := [V.ref a]) F hr hb hx I2 (.cons rfl .nil) rz q2
end
end Z
set_option Elab.async false
set_option linter.all false
set_option maxRecDepth 100000
namespace Z
open PySem PySem.Spec L2 StX
open PyProof.Rows hiding St
/-! ### a def(self, *names) by its body -/
section
variable {P : Program} {w : World} {K : PySem.W.Frag} {mg : Str → Option Value} {base : Heap} {T : List (Addr × Str)}
theorem cxnew0 : CXNew CX0 := fun _ _ _ _ _ _ _ _ _ _ _ _ h => h
theorem okV {x qual : Str} {st : Stmt} {f : Addr} {fd : FuncData} {N : List Str} {pa pv : Str} {k : Nat} {sp : SpP} (Fn : Fun K x qual st f fd) (S : FnScope N [pa, pv] (defScope st)) (hl : ∀ args P, sp args P → args.length = 2) (hn : 2 ≤ N.length)
    (hb : ∀ (u : Value) (rest : List Value), rest.length ≤ 5 → bindArgs fd ⟨u :: rest, []⟩ = (newTuple rest >>= fun t => pure [(pa, u), (pv, t)]))
    (hbody : ∀ (cdv : Value) (A : Around) (outer : List Env) (s : Shared) (H : Hp) (E : XK), Room k (A.deeper (envOfC qual (defScope st) s.heap.objs.size f cdv)) →
      ∃ ts, PSs (cxOf CX0 P w K mg base N qual (defScope st) f cdv A outer s H E).nox (defBody st) (upS K T ts) ∧ ∀ args P, sp args P → ts { nx := fun _ => P .non, rt := fun x _ => P x } (startP N.length args)) :
    FnR P w K mg base CX0 (k + 1) f (upSpV K T sp) := by
  obtain ⟨oc, od, kV, doc, pm, an, cdv, ct, osl, rfl, lk, hcd⟩ := Fn.ex
  have F := fn_ofV (CX := CX0) (P := P) (w := w) (mg := mg) (base := base) (k := k) (nmax := 5) (sp := upSp K T sp) lk hcd S (by decide) hb cxnew0 fun A outer s H vs Q E hr h => by
    obtain ⟨ts, d, rd⟩ := hbody cdv A outer s H E hr
    exact ⟨_, d.nox, body_sp h (fun args P hs => by rw [hl _ _ hs]; exact hn) rd⟩
  exact fun A outer s H us vs Q E hr e0 r hsp => F A outer s H us vs Q E hr e0 r (upSpV_raw vs H Q E hsp)
theorem bindV5 {x qual : Str} {st : Stmt} {f : Addr} {fd : FuncData} {pa pv : Str} (Fn : Fun K x qual st f fd)
    (h : ∀ (kV doc pm : Value) (an : Option Addr) (cdv ct : Value), (∀ u, bindArgs (PySem.W.fnOf x qual (defArgs st) (defBody st) (defScope st) .none kV doc pm an cdv ct) ⟨[u], []⟩ = (newTuple [] >>= fun t => pure [(pa, u), (pv, t)])) ∧
      (∀ u a, bindArgs (PySem.W.fnOf x qual (defArgs st) (defBody st) (defScope st) .none kV doc pm an cdv ct) ⟨[u, a], []⟩ = (newTuple [a] >>= fun t => pure [(pa, u), (pv, t)])) ∧
      (∀ u a b, bindArgs (PySem.W.fnOf x qual (defArgs st) (defBody st) (defScope st) .none kV doc pm an cdv ct) ⟨[u, a, b], []⟩ = (newTuple [a, b] >>= fun t => pure [(pa, u), (pv, t)])) ∧
      (∀ u a b c, bindArgs (PySem.W.fnOf x qual (defArgs st) (defBody st) (defScope st) .none kV doc pm an cdv ct) ⟨[u, a, b, c], []⟩ = (newTuple [a, b, c] >>= fun t => pure [(pa, u), (pv, t)])) ∧
      (∀ u a b c d, bindArgs (PySem.W.fnOf x qual (defArgs st) (defBody st) (defScope st) .none kV doc pm an cdv ct) ⟨[u, a, b, c, d], []⟩ = (newTuple [a, b, c, d] >>= fun t => pure [(pa, u), (pv, t)])) ∧
      (∀ u a b c d e, bindArgs (PySem.W.fnOf x qual (defArgs st) (defBody st) (defScope st) .none kV doc pm an cdv ct) ⟨[u, a, b, c, d, e], []⟩ = (newTuple [a, b, c, d, e] >>= fun t => pure [(pa, u), (pv, t)]))) :
    ∀ (u : Value) (rest : List Value), rest.length ≤ 5 → bindArgs fd ⟨u :: rest, []⟩ = (newTuple rest >>= fun t => pure [(pa, u), (pv, t)]) := by
  obtain ⟨oc, od, kV, doc, pm, an, cdv, ct, osl, rfl, lk, hcd⟩ := Fn.ex
  obtain ⟨h0, h1, h2, h3, h4, h5⟩ := h kV doc pm an cdv ct
  exact bindV_of h0 h1 h2 h3 h4 h5
end
/-! ### a, b, .. = list -/
section
variable {X : Cx} {T : List (Addr × Str)} {es : List Expr} {pos : Pos} {k : Nat}
def gLstP (n : Nat) (t : TGsp) : TGp := fun x η P => match x with
  | .lst xs => xs.length = n ∧ t xs η P
  | _ => False
theorem zg_lst {n : Nat} {t : TGsp} (pf : PG X (.Tuple es k pos) (gLst X.K n (upGs X.K T t))) : PG X (.Tuple es k pos) (upG X.K T (gLstP n t)) := by
  refine PG.weak pf fun v σ H Q q => ?_
  obtain ⟨F, η, x, P, R, r, h, k⟩ := q
  unfold gLstP at h
  split at h
  · obtain ⟨a, us, rfl, na, q', rr⟩ := r.lst_
    exact ⟨a, us, rfl, SqL.of q', by rw [rr.len]; exact h.1, F, η, _, P, R, rr, h.2, k⟩
  · cases h
end
end Z
set_option Elab.async false
set_option linter.all false
set_option maxRecDepth 100000
namespace Z
open PySem PySem.Spec L2 StX
open PyProof.Rows hiding St
section
variable {X : Cx} {T : List (Addr × Str)} {C : Addr} {sp : SpP} {m : Str} {e : Expr} {ta : TEp}
theorem z_methV0 (pf : PE X e (tMethR C m (upSpV X.K T sp) E0 (up X.K T ta) tNil)) : PE X e (up X.K T (tMethVP C m sp ta tNilP)) := by
  refine PE.weak pf fun σ H Q q => ?_
  obtain ⟨F, η, P, R, h, kk⟩ := q
  refine ⟨F, η, _, R, h, fun x η1 v H1 h1 e1 R1 r1 => ?_⟩
  obtain ⟨⟨fs, rfl, hm⟩, h1⟩ := h1
  obtain ⟨a, dx, ws, rfl, na, q, rr⟩ := id r1.ins_
  refine ⟨a, dx, ws, rfl, q, (rr.look m).2 hm, ?_⟩
  exact ⟨Oof F σ η1, _, [], _, R1.trO, R1.tb, .cons r1 .nil, h1.1, h1.2, fun z v H3 pz g tb rz => kk z η1 v H3 pz (e1.trans g.ext) (R1.gr g tb) rz⟩
/-- o.m(..) by the finished rule -/
theorem z_methP {t : TAp} {dvs : List V} {dps : List PV} (hp : ∀ O H, Reps X.K O H dps dvs)
    (pf : PE X e (tMeth C m (upSp X.K T sp) dvs E0 (up X.K T ta) (upA X.K T t))) : PE X e (up X.K T (tMethP C m sp dps ta t)) :=
  PE.weak pf fun σ H Q q => meth_up hp q
end
end Z
set_option Elab.async false
set_option linter.all false
set_option maxRecDepth 100000
namespace Z
open PySem PySem.Spec L2
open PyProof.Rows hiding St
/-! ### o.m(k = v, ..), o.m(a, k = v), f(k = v), f(a, k = v) -/
/-- the items at the places is, in this order -/
def pick {α : Type} (is : List Nat) (xs : List α) : List α := is.filterMap fun i => xs[i]?
theorem vals_get : ∀ {zs : List V} {ws : List Value} {i : Nat}, Vals zs ws → (zs[i]? = none ∧ ws[i]? = none) ∨ ∃ z w, zs[i]? = some z ∧ ws[i]? = some w ∧ RelV z w
  | _, _, i, .nil => .inl ⟨by simp, by simp⟩
  | _, _, 0, .cons r t => .inr ⟨_, _, rfl, rfl, r⟩
  | _, _, i + 1, .cons r t => by
    simpa using vals_get (i := i) t
theorem vals_pick : ∀ (is : List Nat) {zs : List V} {ws : List Value}, Vals zs ws → Vals (pick is zs) (pick is ws)
  | [], _, _, _ => .nil
  | i :: is, zs, ws, h => by
    unfold pick
    rcases vals_get (i := i) h with ⟨h1, h2⟩ | ⟨z, w, h1, h2, r⟩
    · rw [List.filterMap_cons_none h1, List.filterMap_cons_none h2]; exact vals_pick is h
    · rw [List.filterMap_cons_some h1, List.filterMap_cons_some h2]; exact .cons r (vals_pick is h)
theorem reps_pick {K : PySem.W.Frag} {O : Addr → Prop} {H : Hp} : ∀ (is : List Nat) {zs : List PV} {vs : List V}, Reps K O H zs vs → Reps K O H (pick is zs) (pick is vs)
  | [], _, _, _ => .nil
  | i :: is, zs, vs, h => by
    unfold pick
    cases e : zs[i]? with
    | some x =>
      obtain ⟨v, h1, h2⟩ := h.get e
      rw [List.filterMap_cons_some e, List.filterMap_cons_some h1]
      exact .cons h2 (reps_pick is h)
    | none =>
      have e2 : vs[i]? = none := by
        rw [List.getElem?_eq_none_iff] at e ⊢
        rw [h.len]; exact e
      rw [List.filterMap_cons_none e, List.filterMap_cons_none e2]
      exact reps_pick is h
/-- n positional values; keywords' values go behind them, as the places say -/
structure KwB (K : PySem.W.Frag) (fd : FuncData) (ps : List Str) (n : Nat) (ks : List Str) (is : List Nat) : Prop where
  to : ∀ (s : Shared) (us ws : List Value), K.In s.heap → us.length = n → ws.length = ks.length → BindsTo s fd ⟨us, ks.zip ws⟩ (ps.zip (us ++ pick is ws))
  ln : n + is.length = ps.length ∧ ∀ i ∈ is, i < ks.length
theorem pick_len {α : Type} : ∀ {is : List Nat} {xs : List α}, (∀ i ∈ is, i < xs.length) → (pick is xs).length = is.length
  | [], _, _ => rfl
  | i :: is, xs, h => by
    have hi := h i List.mem_cons_self
    unfold pick
    rw [List.filterMap_cons_some (List.getElem?_eq_getElem hi), List.length_cons, List.length_cons]
    exact congrArg (· + 1) (pick_len fun j hj => h j (List.mem_cons_of_mem _ hj))
def tMethKV (C : Addr) (m : Str) (sp : Sp) (n nk : Nat) (is : List Nat) (E : XK) (ta : TE) (t tk : TA) : TE := fun σ H Q => ta σ H fun x H1 => ∃ a dx fs, x = .ref a ∧ H1 a = some (.ins C dx fs) ∧ fs.lookup m = none ∧ t σ H1 fun vs H2 => tk σ H2 fun zs H3 => vs.length = n ∧ zs.length = nk ∧ sp (x :: (vs ++ pick is zs)) H3 Q E
def tCallKV (sp : Sp) (n nk : Nat) (is : List Nat) (E : XK) (t tk : TA) : TE := fun σ H Q => t σ H fun vs H1 => tk σ H1 fun zs H2 => vs.length = n ∧ zs.length = nk ∧ sp (vs ++ pick is zs) H2 Q E
section
variable {X : Cx} {CX : CXT} {k n : Nat} {f : Addr} {fd : FuncData} {ps ks : List Str} {sp : Sp} {E : XK} {is : List Nat}
theorem run_kw {pins : List (Addr × Obj)} {σ : St} {H : Hp} {s : Shared} {Q : VK} {us ws : List Value} {vs zs : List V} (F : FnOk X.prog X.w X.K X.mg X.base CX k f fd ps sp) (hr : Room k X.A) (hb : KwB X.K fd ps n ks is) (hx : Passes CX X E)
    (I : Inv X pins σ H s) (r : Vals vs us) (rz : Vals zs ws) (l1 : vs.length = n) (l2 : zs.length = ks.length) (h : sp (vs ++ pick is zs) H Q E) : wpAny (model X.prog X.w) X.A (call (.ref f) us (ks.zip ws)) (EP X pins σ Q) X.xe s := by
  have b := hb.to s us ws I.kIn (by rw [← r.length]; exact l1) (by rw [← rz.length]; exact l2)
  refine wpAny_call (codeAny_mono (F.run X.A X.stack s H ⟨us, ks.zip ws⟩ (us ++ pick is ws) (vs ++ pick is zs) Q E hr I.env0 b (r.append (vals_pick is rz)) h) fun q s' hq => ?_)
  cases q with
  | error e => exact hx pins σ H s e s' I hq
  | ok z =>
    cases z with
    | ret u => exact I.after hq
    | next => exact hq.elim
    | brk => exact hq.elim
    | cont => exact hq.elim
end
section
variable {X : Cx} {CX : CXT} {k n : Nat} {C f : Addr} {sp : Sp} {E : XK} {o e : Expr} {es : List Expr} {m x : Str} {pos apos p : Pos} {ta : TE} {t tk : TA} {pl : Sem Bool} {fd : FuncData} {ps ks : List Str} {kws : List Keyword} {is : List Nat}
theorem pe_methKw0 (he : PE X o ta) (c : Cls X.K C) (hm : Meth X.K C m f) (F : FnOk X.prog X.w X.K X.mg X.base CX k f fd ps sp) (hr : Room k X.A) (hb : KwB X.K fd ps (0 + 1) ks is) (hx : Passes CX X E) (hkw : PK X kws tk)
    (hall : (backToKw pos (keywordEach kws X.env)).all (·.1.isSome) = true := by rfl) (hks : (backToKw pos (keywordEach kws X.env)).filterMap (·.1) = ks := by rfl)
    (hpl : ((backTo pos (starEach [] X.env)).any (·.1) || (backToKw pos (keywordEach kws X.env)).any (·.1.isNone)) = false := by rfl)
    (ht : eval (.Call (.Attribute o m apos) [] kws pos) X.env = (do
      let ov ← eval o X.env
      standAt apos.atName
      let (f, first) ← holding [ov] (getMethod ov m pl)
      callWith pos f first (backTo pos (starEach [] X.env)) (backToKw pos (keywordEach kws X.env))) := by rfl) :
    PE X (.Call (.Attribute o m apos) [] kws pos) (tMethKV C m sp 0 ks.length is E ta tNil tk) := by
  refine ⟨fun pins s σ H Q I h => ?_⟩
  refine PySem.W.methodCall_KW (pl := pl) (thn (he.run pins s σ H _ I h) fun u s1 ⟨x, H1, I1, rx, a, dx, fs, ex, ea, l, q⟩ => ?_) ht
  subst ex
  obtain rfl : u = Value.ref a := rx
  refine getmeth_ok I1 ea c hm l ?_
  refine PySem.W.callWith_KW0 (h₀ := X.base) (first := [.ref a]) I1.ok.mod.kin hm.kp hall (thn (hkw.run pos pins s1 σ H1 _ I1 q) fun ws s3 ⟨zs, H2, I3, rz, _, l2, q2⟩ => ⟨I3.kIn, ?_⟩) hpl
  rw [hks]
  exact run_kw (us := [.ref a]) (vs := [.ref a]) F hr hb hx I3 (.cons rfl .nil) rz rfl l2 q2
theorem pe_methKw1 (he : PE X o ta) (c : Cls X.K C) (hm : Meth X.K C m f) (F : FnOk X.prog X.w X.K X.mg X.base CX k f fd ps sp) (hr : Room k X.A) (hb : KwB X.K fd ps (n + 1) ks is) (hx : Passes CX X E) (ha : PA X (e :: es) t) (hkw : PK X kws tk)
    (hall : (backToKw pos (keywordEach kws X.env)).all (·.1.isSome) = true := by rfl) (hks : (backToKw pos (keywordEach kws X.env)).filterMap (·.1) = ks := by rfl)
    (hst : starEach (e :: es) X.env = (false, eval e X.env) :: starEach es X.env := by rfl)
    (hpl : ((backTo pos (starEach (e :: es) X.env)).any (·.1) || (backToKw pos (keywordEach kws X.env)).any (·.1.isNone)) = false := by rfl)
    (ht : eval (.Call (.Attribute o m apos) (e :: es) kws pos) X.env = (do
      let ov ← eval o X.env
      standAt apos.atName
      let (f, first) ← holding [ov] (getMethod ov m pl)
      callWith pos f first (backTo pos (starEach (e :: es) X.env)) (backToKw pos (keywordEach kws X.env))) := by rfl) :
    PE X (.Call (.Attribute o m apos) (e :: es) kws pos) (tMethKV C m sp n ks.length is E ta t tk) := by
  refine ⟨fun pins s σ H Q I h => ?_⟩
  refine PySem.W.methodCall_KW (pl := pl) (thn (he.run pins s σ H _ I h) fun u s1 ⟨x, H1, I1, rx, a, dx, fs, ex, ea, l, q⟩ => ?_) ht
  subst ex
  obtain rfl : u = Value.ref a := rx
  refine getmeth_ok I1 ea c hm l ?_
  refine PySem.W.callWith_KW (h₀ := X.base) (first := [.ref a]) I1.ok.mod.kin hm.kp hall (thn (ha.run pos pins s1 σ H1 _ I1 q) fun us s2 ⟨vs, H2, I2, r, q1⟩ => thn (hkw.run pos pins s2 σ H2 _ I2 q1) fun ws s3 ⟨zs, H3, I3, rz, l1, l2, q2⟩ => ⟨I3.kIn, ?_⟩) hpl hst
  rw [hks]
  exact run_kw (us := .ref a :: us) (vs := .ref a :: vs) F hr hb hx I3 (.cons rfl r) rz (by rw [List.length_cons, l1]) l2 q2
theorem pe_callKw0 (F : FnOk X.prog X.w X.K X.mg X.base CX k f fd ps sp) (hr : Room k X.A) (hg : Gl X x) (hm : X.mg x = some (.ref f)) (hk : PySem.W.keepIn X.K (.ref f) = true) (hb : KwB X.K fd ps 0 ks is) (hx : Passes CX X E) (hkw : PK X kws tk)
    (hall : (backToKw pos (keywordEach kws X.env)).all (·.1.isSome) = true := by rfl) (hks : (backToKw pos (keywordEach kws X.env)).filterMap (·.1) = ks := by rfl) (hdb : (x == ("__debug__" : Str)) = false := by decide)
    (hpl : ((backTo pos (starEach [] X.env)).any (·.1) || (backToKw pos (keywordEach kws X.env)).any (·.1.isNone)) = false := by rfl) :
    PE X (.Call (.Name x p) [] kws pos) (tCallKV sp 0 ks.length is E tNil tk) := by
  refine ⟨fun pins s σ H Q I h => wpAny_Call_Name_kw (ld_glob I hg hm ?_ hdb)⟩
  refine PySem.W.callWith_KW0 (h₀ := X.base) (first := []) I.ok.mod.kin hk hall (thn (hkw.run pos pins s σ H _ I h) fun ws s2 ⟨zs, H2, I2, rz, _, l2, q2⟩ => ⟨I2.kIn, ?_⟩) hpl
  rw [hks]
  exact run_kw (us := []) (vs := []) F hr hb hx I2 .nil rz rfl l2 q2
theorem pe_callKw1 (F : FnOk X.prog X.w X.K X.mg X.base CX k f fd ps sp) (hr : Room k X.A) (hg : Gl X x) (hm : X.mg x = some (.ref f)) (hk : PySem.W.keepIn X.K (.ref f) = true) (hb : KwB X.K fd ps n ks is) (hx : Passes CX X E) (ha : PA X (e :: es) t) (hkw : PK X kws tk)
    (hall : (backToKw pos (keywordEach kws X.env)).all (·.1.isSome) = true := by rfl) (hks : (backToKw pos (keywordEach kws X.env)).filterMap (·.1) = ks := by rfl) (hdb : (x == ("__debug__" : Str)) = false := by decide)
    (hst : starEach (e :: es) X.env = (false, eval e X.env) :: starEach es X.env := by rfl)
    (hpl : ((backTo pos (starEach (e :: es) X.env)).any (·.1) || (backToKw pos (keywordEach kws X.env)).any (·.1.isNone)) = false := by rfl) :
    PE X (.Call (.Name x p) (e :: es) kws pos) (tCallKV sp n ks.length is E t tk) := by
  refine ⟨fun pins s σ H Q I h => wpAny_Call_Name_kw (ld_glob I hg hm ?_ hdb)⟩
  refine PySem.W.callWith_KW (h₀ := X.base) (first := []) I.ok.mod.kin hk hall (thn (ha.run pos pins s σ H _ I h) fun us s1 ⟨vs, H1, I1, r, q⟩ => thn (hkw.run pos pins s1 σ H1 _ I1 q) fun ws s2 ⟨zs, H2, I2, rz, l1, l2, q2⟩ => ⟨I2.kIn, ?_⟩) hpl hst
  rw [hks]
  exact run_kw F hr hb hx I2 r rz l1 l2 q2
end
/-! over plain values -/
section
variable {X : Cx} {T : List (Addr × Str)} {k n nk : Nat} {C f : Addr} {sp : SpP} {o e : Expr} {m : Str} {ta : TEp} {t tk : TAp} {is : List Nat}
def tMethKP (C : Addr) (m : Str) (sp : SpP) (n nk : Nat) (is : List Nat) (ta : TEp) (t tk : TAp) : TEp := fun η P => ta η fun x η1 => (∃ fs, x = .ins C fs ∧ fs.lookup m = none) ∧ t η1 fun args η2 => tk η2 fun zs η3 => args.length = n ∧ zs.length = nk ∧ sp (x :: (args ++ pick is zs)) fun z => P z η3
def tCallKP (sp : SpP) (n nk : Nat) (is : List Nat) (t tk : TAp) : TEp := fun η P => t η fun args η1 => tk η1 fun zs η2 => args.length = n ∧ zs.length = nk ∧ sp (args ++ pick is zs) fun z => P z η2
theorem z_methK (pf : PE X e (tMethKV C m (upSp X.K T sp) n nk is E0 (up X.K T ta) (upA X.K T t) (upA X.K T tk))) : PE X e (up X.K T (tMethKP C m sp n nk is ta t tk)) := PE.weak pf fun σ H Q q => by
  obtain ⟨F, η, P, R, h, k⟩ := q
  refine ⟨F, η, _, R, h, fun x η1 v H1 h1 e1 R1 r1 => ?_⟩
  obtain ⟨⟨fs, rfl, hm⟩, h1⟩ := h1
  obtain ⟨a, dx, ws, rfl, na, q, rr⟩ := r1.ins_
  refine ⟨a, dx, ws, rfl, q, (rr.look m).2 hm, F, η1, _, R1, h1, fun args η2 vs H2 h2 e2 R2 r2 => ⟨F, η2, _, R2, h2, fun zs η3 us H3 h3 e3 R3 r3 => ?_⟩⟩
  exact ⟨by rw [r2.len]; exact h3.1, by rw [r3.len]; exact h3.2.1, Oof F σ η3, _, _, R3.trO, R3.tb, .cons ((r1.car e2.car).car e3.car) ((r2.car e3.car).app (reps_pick is r3)), h3.2.2, fun z v H4 pz g tb rz => k z η3 v H4 pz (((e1.trans e2).trans e3).trans g.ext) (R3.gr g tb) rz⟩
theorem z_methK0 (pf : PE X e (tMethKV C m (upSp X.K T sp) n nk is E0 (up X.K T ta) tNil (upA X.K T tk))) : PE X e (up X.K T (tMethKP C m sp n nk is ta tNilP tk)) := PE.weak pf fun σ H Q q => by
  obtain ⟨F, η, P, R, h, k⟩ := q
  refine ⟨F, η, _, R, h, fun x η1 v H1 h1 e1 R1 r1 => ?_⟩
  obtain ⟨⟨fs, rfl, hm⟩, h1⟩ := h1
  obtain ⟨a, dx, ws, rfl, na, q, rr⟩ := r1.ins_
  refine ⟨a, dx, ws, rfl, q, (rr.look m).2 hm, F, η1, _, R1, h1, fun zs η3 us H3 h3 e3 R3 r3 => ?_⟩
  exact ⟨h3.1, by rw [r3.len]; exact h3.2.1, Oof F σ η3, _, _, R3.trO, R3.tb, .cons (r1.car e3.car) (reps_pick is r3), h3.2.2, fun z v H4 pz g tb rz => k z η3 v H4 pz ((e1.trans e3).trans g.ext) (R3.gr g tb) rz⟩
theorem z_callK (pf : PE X e (tCallKV (upSp X.K T sp) n nk is E0 (upA X.K T t) (upA X.K T tk))) : PE X e (up X.K T (tCallKP sp n nk is t tk)) := PE.weak pf fun σ H Q q => by
  obtain ⟨F, η, P, R, h, k⟩ := q
  refine ⟨F, η, _, R, h, fun args η2 vs H2 h2 e2 R2 r2 => ⟨F, η2, _, R2, h2, fun zs η3 us H3 h3 e3 R3 r3 => ?_⟩⟩
  exact ⟨by rw [r2.len]; exact h3.1, by rw [r3.len]; exact h3.2.1, Oof F σ η3, _, _, R3.trO, R3.tb, ((r2.car e3.car).app (reps_pick is r3)), h3.2.2, fun z v H4 pz g tb rz => k z η3 v H4 pz ((e2.trans e3).trans g.ext) (R3.gr g tb) rz⟩
theorem z_callK0 (pf : PE X e (tCallKV (upSp X.K T sp) n nk is E0 tNil (upA X.K T tk))) : PE X e (up X.K T (tCallKP sp n nk is tNilP tk)) := PE.weak pf fun σ H Q q => by
  obtain ⟨F, η, P, R, h, k⟩ := q
  refine ⟨F, η, _, R, h, fun zs η3 us H3 h3 e3 R3 r3 => ?_⟩
  exact ⟨h3.1, by rw [r3.len]; exact h3.2.1, Oof F σ η3, _, _, R3.trO, R3.tb, reps_pick is r3, h3.2.2, fun z v H4 pz g tb rz => k z η3 v H4 pz (e3.trans g.ext) (R3.gr g tb) rz⟩
end
end Z
set_option Elab.async false
set_option linter.all false
set_option maxRecDepth 100000
/-! ### what runs leaves sleeping generators as they are, if it would also run where they can't be woken -/
namespace Z
open PySem
open Sem (wp)
/-- a sleeping generator that can't be woken, alike to be seen -/
def stung : GenState → GenState
  | .suspended _ l c p fs _ => .suspended (fun _ => .unsupported "") l c p fs false
  | x => x
def sleeps : GenState → Bool
  | .suspended .. => true
  | _ => false
def isGenF : Frame → Bool
  | .gen .. => true
  | _ => false
def NoG (fs : List Frame) : Prop := ∀ F ∈ fs, isGenF F = false
def NoGS : GenState → Prop
  | .suspended _ _ _ _ fs _ => NoG fs
  | _ => True
def NoGE : End → Prop
  | .susp _ _ _ _ _ _ fs => NoG fs
  | _ => True
theorem noG_split : ∀ {fs : List Frame}, NoG fs → splitAtGen fs = none
  | [], _ => rfl
  | .ret .. :: fs, h => by
    unfold splitAtGen
    rw [noG_split fun F hF => h F (List.mem_cons_of_mem _ hF)]
    rfl
  | .gen g k l c p :: fs, h => by
    have := h _ List.mem_cons_self
    cases this
theorem noGE_state {e : End} (h : NoGE e) : NoGS e.genState := by
  cases e with
  | ret r => exact trivial
  | susp v g l k c p fs => exact h
def pickG (y : Option GenState) (x : GenState) : GenState := match y with
  | some y => if sleeps y = true then y else x
  | none => x
/-- the sleeping ones of G stand as they were -/
def un (G : Array GenState) (s : Shared) : Shared := { s with gens := s.gens.mapIdx fun i x => pickG G[i]? x }
structure Good (G : Array GenState) (s : Shared) : Prop where
  sz : G.size ≤ s.gens.size
  sl : ∀ (i : Nat) (y : GenState), G[i]? = some y → sleeps y = true → s.gens[i]? = some (stung y)
  no : ∀ (i : Nat) (x : GenState), (∀ y, G[i]? = some y → sleeps y = false) → s.gens[i]? = some x → NoGS x
theorem no_run {M : Model} {Γ : Ctx} {p : Pos} {w : String} {fs : List Frame} {s s' : Shared} {e : End} : ¬ Runs M Γ p (.unsupported w) fs s e s' := by
  intro h
  generalize ht : (Sem.unsupported w : Sem PySem.Fin) = t at h
  induction h <;> first | (cases ht; done) | (rename_i ih _; exact ih ht) | (rename_i ih; exact ih ht) | (rename_i ih _ _; exact ih ht) | (rename_i ih _ _ _; exact ih ht)
section
variable {G : Array GenState} {s : Shared}
theorem un_size : (un G s).gens.size = s.gens.size := by simp [un]
theorem un_get {i : Nat} : (un G s).gens[i]? = (s.gens[i]?).map (pickG G[i]?) := by simp [un]
theorem un_awake {i : Nat} {x : GenState} (h : ∀ y, G[i]? = some y → sleeps y = false) (e : s.gens[i]? = some x) : (un G s).gens[i]? = some x := by
  rw [un_get, e]
  show some (pickG G[i]? x) = some x
  unfold pickG
  cases q : G[i]? with
  | none => rfl
  | some y => simp [h y q]
theorem un_sleep {i : Nat} {y x : GenState} (hy : G[i]? = some y) (hs : sleeps y = true) (e : s.gens[i]? = some x) : (un G s).gens[i]? = some y := by
  rw [un_get, e, hy]
  show some (pickG (some y) x) = some y
  simp [pickG, hs]
theorem stung_seen (y : GenState) : (stung y).seen = y.seen := by cases y <;> rfl
theorem un_seen {i : Nat} {st : GenState} (g : Good G s) (e : s.gens[i]? = some st) : ∃ st', (un G s).gens[i]? = some st' ∧ st'.seen = st.seen := by
  by_cases h : ∀ y, G[i]? = some y → sleeps y = false
  · exact ⟨st, un_awake h e, rfl⟩
  · obtain ⟨y, h⟩ := Classical.not_forall.mp h
    obtain ⟨hy, hs⟩ := Classical.not_imp.mp h
    have hs' : sleeps y = true := by simpa using hs
    have := g.sl i y hy hs'
    rw [e] at this; cases this
    exact ⟨y, un_sleep hy hs' e, (stung_seen y).symm⟩
theorem awake_of {i : Nat} {x : GenState} (g : Good G s) (e : s.gens[i]? = some x) (hx : sleeps x = false) : ∀ y, G[i]? = some y → sleeps y = false := fun y hy => by
  cases q : sleeps y with
  | false => rfl
  | true =>
    have := g.sl i y hy q
    rw [e] at this; cases this
    cases y <;> cases q
    cases hx
theorem un_set {i : Nat} {x : GenState} (h : ∀ y, G[i]? = some y → sleeps y = false) : un G (s.setGen i x) = (un G s).setGen i x := by
  unfold un Shared.setGen
  congr 1
  apply Array.ext_getElem?
  intro j
  rw [Array.getElem?_mapIdx, Array.getElem?_setIfInBounds, Array.getElem?_setIfInBounds, Array.getElem?_mapIdx]
  by_cases e : i = j
  · subst e
    rw [if_pos rfl, if_pos rfl, Array.size_mapIdx]
    split
    · show some (pickG G[i]? x) = some x
      unfold pickG
      cases q : G[i]? with
      | none => rfl
      | some y => simp [h y q]
    · rfl
  · rw [if_neg e, if_neg e]
theorem good_set {i : Nat} {x : GenState} (g : Good G s) (h : ∀ y, G[i]? = some y → sleeps y = false) (hx : NoGS x) : Good G (s.setGen i x) := by
  refine ⟨?_, fun j y hy hs => ?_, fun j z hj hz => ?_⟩
  · rw [GenW.setGen_size]; exact g.sz
  · have ne : i ≠ j := fun e => by rw [e] at h; have := h y hy; rw [hs] at this; cases this
    show (s.gens.setIfInBounds i x)[j]? = _
    rw [Array.getElem?_setIfInBounds_ne ne]
    exact g.sl j y hy hs
  · have hz' : (s.gens.setIfInBounds i x)[j]? = some z := hz
    rw [Array.getElem?_setIfInBounds] at hz'
    by_cases e : i = j
    · rw [if_pos e] at hz'
      split at hz'
      · cases hz'; exact hx
      · cases hz'
    · rw [if_neg e] at hz'
      exact g.no j z hj hz'
theorem un_push {c : Code} (g : Good G s) : un G { s with gens := s.gens.push (.fresh c) } = { un G s with gens := (un G s).gens.push (.fresh c) } := by
  unfold un
  congr 1
  apply Array.ext_getElem?
  intro j
  rw [Array.getElem?_mapIdx, Array.getElem?_push, Array.getElem?_push, Array.getElem?_mapIdx, Array.size_mapIdx]
  by_cases e : j = s.gens.size
  · rw [if_pos e, if_pos e]
    have : G[j]? = none := by rw [Array.getElem?_eq_none_iff]; have := g.sz; omega
    rw [this]; rfl
  · rw [if_neg e, if_neg e]
theorem good_push {c : Code} (g : Good G s) : Good G { s with gens := s.gens.push (.fresh c) } := by
  refine ⟨?_, fun j y hy hs => ?_, fun j z hj hz => ?_⟩
  · show G.size ≤ (s.gens.push (.fresh c)).size
    rw [Array.size_push]; have := g.sz; omega
  · show (s.gens.push (.fresh c))[j]? = _
    have hj : j < G.size := (Array.getElem?_eq_some_iff.mp hy).1
    have := g.sz
    rw [Array.getElem?_push, if_neg (by omega)]
    exact g.sl j y hy hs
  · have hz' : (s.gens.push (.fresh c))[j]? = some z := hz
    rw [Array.getElem?_push] at hz'
    by_cases e : j = s.gens.size
    · rw [if_pos e] at hz'; cases hz'; exact trivial
    · rw [if_neg e] at hz'; exact g.no j z hj hz'
theorem Good.of {s' : Shared} (g : Good G s) (e : s'.gens = s.gens) : Good G s' := ⟨by rw [e]; exact g.sz, by rw [e]; exact g.sl, by rw [e]; exact g.no⟩
end
theorem noG_nil : NoG [] := fun F h => by cases h
theorem noG_app {a b : List Frame} (ha : NoG a) (hb : NoG b) : NoG (a ++ b) := fun F h => (List.mem_append.mp h).elim (ha F) (hb F)
theorem runs_un {M : Model} {G : Array GenState} {Γ : Ctx} {p : Pos} {t : Sem PySem.Fin} {fs : List Frame} {s s' : Shared} {e : End} (h : Runs M Γ p t fs s e s') : Good G s → NoG fs → Runs M Γ p t fs (un G s) e (un G s') ∧ Good G s' ∧ NoGE e := by
  induction h with
  | done => exact fun g _ => ⟨.done, g, trivial⟩
  | raise => exact fun g _ => ⟨.raise, g, trivial⟩
  | again q _ ih => exact fun g n => let ⟨a, b, c⟩ := ih g n; ⟨.again q a, b, c⟩
  | rule _ ih => exact fun g n => let ⟨a, b, c⟩ := ih g n; ⟨.rule a, b, c⟩
  | «at» _ ih => exact fun g n => let ⟨a, b, c⟩ := ih g n; ⟨.at a, b, c⟩
  | load q _ ih => exact fun g n => let ⟨a, b, c⟩ := ih g n; ⟨.load q a, b, c⟩
  | update q _ ih => exact fun g n => let ⟨a, b, c⟩ := ih (g.of rfl) n; ⟨.update q a, b, c⟩
  | loadIfAlive _ ih => exact fun g n => let ⟨a, b, c⟩ := ih g n; ⟨.loadIfAlive a, b, c⟩
  | point _ ih => exact fun g n => let ⟨a, b, c⟩ := ih g n; ⟨.point a, b, c⟩
  | alloc _ ih => exact fun g n => let ⟨a, b, c⟩ := ih (g.of rfl) n; ⟨.alloc a, b, c⟩
  | fresh _ ih => exact fun g n => let ⟨a, b, c⟩ := ih (g.of rfl) n; ⟨.fresh a, b, c⟩
  | ask _ ih => exact fun g n => let ⟨a, b, c⟩ := ih g n; ⟨.ask a, b, c⟩
  | choose q _ ih => exact fun g n => let ⟨a, b, c⟩ := ih (g.of rfl) n; ⟨.choose q a, b, c⟩
  | os _ ih => exact fun g n => let ⟨a, b, c⟩ := ih (g.of rfl) n; ⟨.os a, b, c⟩
  | handled _ ih => exact fun g n => let ⟨a, b, c⟩ := ih g n; ⟨.handled a, b, c⟩
  | genState q _ ih =>
    intro g n
    obtain ⟨a, b, c⟩ := ih g n
    obtain ⟨st', h1, h2⟩ := un_seen g q
    exact ⟨.genState h1 (by rw [h2]; exact a), b, c⟩
  | stack _ ih => exact fun g n => let ⟨a, b, c⟩ := ih g n; ⟨.stack a, b, c⟩
  | thread _ ih => exact fun g n => let ⟨a, b, c⟩ := ih g n; ⟨.thread a, b, c⟩
  | newGen _ ih =>
    intro g n
    obtain ⟨a, b, c⟩ := ih (good_push g) n
    rw [un_push g] at a
    refine ⟨.newGen ?_, b, c⟩
    rw [un_size]
    exact a
  | call _ _ ih1 ih2 =>
    intro g n
    obtain ⟨a, b, c⟩ := ih1 g noG_nil
    obtain ⟨a2, b2, c2⟩ := ih2 b n
    exact ⟨.call a a2, b2, c2⟩
  | callSusp _ ih =>
    intro g n
    obtain ⟨a, b, c⟩ := ih g noG_nil
    exact ⟨.callSusp a, b, noG_app c fun F hF => by rw [List.mem_singleton.mp hF]; rfl⟩
  | yield => exact fun g _ => ⟨.yield, g, noG_nil⟩
  | resumeFresh q _ hq _ ih1 ih2 =>
    intro g n
    have aw := awake_of g q rfl
    obtain ⟨a, b, c⟩ := ih1 (good_set g aw trivial) noG_nil
    rw [un_set aw] at a
    obtain ⟨a2, b2, c2⟩ := ih2 (good_set b aw (noGE_state c)) n
    rw [un_set aw] at a2
    exact ⟨.resumeFresh (un_awake aw q) a hq a2, b2, c2⟩
  | resumeSuspended q hr hq _ ih1 ih2 =>
    rename_i i _ _ _ _ _ _ _ _ _ _ _ _ _ _ _
    intro g n
    by_cases aw : ∀ y, G[i]? = some y → sleeps y = false
    · obtain ⟨a, b, c⟩ := ih1 (good_set g aw trivial) (g.no i _ aw q)
      rw [un_set aw] at a
      obtain ⟨a2, b2, c2⟩ := ih2 (good_set b aw (noGE_state c)) n
      rw [un_set aw] at a2
      exact ⟨.resumeSuspended (un_awake aw q) a hq a2, b2, c2⟩
    · obtain ⟨y, h⟩ := Classical.not_forall.mp aw
      obtain ⟨hy, hs⟩ := Classical.not_imp.mp h
      have hs' : sleeps y = true := by simpa using hs
      have z := g.sl i y hy hs'
      rw [q] at z
      cases y with
      | suspended k l c p fs cl =>
        unfold stung at z
        cases z
        exact absurd hr no_run
      | _ => cases hs'
  | resumeJustStarted q hv _ ih => exact fun g n => let ⟨a, b, c⟩ := ih g n; ⟨.resumeJustStarted (un_awake (awake_of g q rfl) q) hv a, b, c⟩
  | resumeThrowFresh q _ ih =>
    intro g n
    have aw := awake_of g q rfl
    obtain ⟨a, b, c⟩ := ih (good_set g aw trivial) n
    rw [un_set aw] at a
    exact ⟨.resumeThrowFresh (un_awake aw q) a, b, c⟩
  | resumeRunning q _ ih => exact fun g n => let ⟨a, b, c⟩ := ih g n; ⟨.resumeRunning (un_awake (awake_of g q rfl) q) a, b, c⟩
  | resumeFinished q _ ih => exact fun g n => let ⟨a, b, c⟩ := ih g n; ⟨.resumeFinished (un_awake (awake_of g q rfl) q) a, b, c⟩
  | segRet _ _ ih1 ih2 =>
    intro g n
    obtain ⟨a, b, c⟩ := ih1 g noG_nil
    obtain ⟨a2, b2, c2⟩ := ih2 b fun F hF => n F (List.mem_cons_of_mem _ hF)
    exact ⟨.segRet a a2, b2, c2⟩
  | segGen _ _ _ _ => exact fun _ n => absurd (n _ List.mem_cons_self) (by simp [isGenF])
  | segSuspOut q _ ih =>
    intro g n
    obtain ⟨a, b, c⟩ := ih g noG_nil
    exact ⟨.segSuspOut q a, b, noG_app c n⟩
  | segSuspGen q _ _ _ _ _ =>
    intro g n
    rw [noG_split n] at q
    cases q
end Z
set_option Elab.async false
set_option linter.all false
set_option maxRecDepth 100000
namespace Z
open PySem L2
open Sem (wp)
open PyProof.Rows hiding St
section
variable {M : Model} {G : Array GenState}
theorem wakes_un {Γ : Ctx} {p : Pos} {g : Nat} {r : Resume} {s s' : Shared} {res : GenResult} (h : Wakes M Γ p g r s res s') (gd : Good G s) : Wakes M Γ p g r (un G s) res (un G s') ∧ Good G s' := by
  unfold Wakes at h
  split at h
  · exact h.elim
  · rename_i c q
    have aw := awake_of gd q rfl
    have q' := un_awake aw q
    unfold Wakes
    rw [q']
    split at h
    · obtain ⟨e₁, s₁, hr, hq, he, rfl⟩ := h
      obtain ⟨a, b, c⟩ := runs_un hr (good_set gd aw trivial) noG_nil
      rw [un_set aw] at a
      exact ⟨⟨e₁, un G s₁, a, hq, he, un_set aw⟩, good_set b aw (noGE_state c)⟩
    · obtain ⟨h1, rfl⟩ := h
      rename_i v hv
      refine ⟨?_, gd⟩
      cases v <;> first | exact ⟨h1, rfl⟩ | exact absurd rfl (hv)
    · obtain ⟨h1, rfl⟩ := h
      exact ⟨⟨h1, un_set aw⟩, good_set gd aw trivial⟩
  · rename_i k₀ l c₀ p₀ fs cl q
    obtain ⟨e₁, s₁, hr, hq, he, rfl⟩ := h
    by_cases aw : ∀ y, G[g]? = some y → sleeps y = false
    · have q' := un_awake aw q
      obtain ⟨a, b, c⟩ := runs_un hr (good_set gd aw trivial) (gd.no g _ aw q)
      rw [un_set aw] at a
      unfold Wakes
      rw [q']
      exact ⟨⟨e₁, un G s₁, a, hq, he, un_set aw⟩, good_set b aw (noGE_state c)⟩
    · obtain ⟨y, h⟩ := Classical.not_forall.mp aw
      obtain ⟨hy, hs⟩ := Classical.not_imp.mp h
      have hs' : sleeps y = true := by simpa using hs
      have z := gd.sl g y hy hs'
      rw [q] at z
      cases y with
      | suspended k l c p fs cl =>
        unfold stung at z
        cases z
        exact absurd hr no_run
      | _ => cases hs'
  · rename_i q
    obtain ⟨h1, rfl⟩ := h
    have q' := un_awake (awake_of gd q rfl) q
    unfold Wakes
    rw [q']
    exact ⟨⟨h1, rfl⟩, gd⟩
  · rename_i q
    obtain ⟨h1, rfl⟩ := h
    have q' := un_awake (awake_of gd q rfl) q
    unfold Wakes
    rw [q']
    exact ⟨⟨h1, rfl⟩, gd⟩
theorem wp_un {α : Type} (Γ : Ctx) (t : Sem α) : ∀ (Q : α → Pos → Shared → Prop) (E : Value → Pos → Shared → Prop) (p : Pos) (s : Shared), Good G s → wp M Γ t Q E p s →
    wp M Γ t (fun a p' s' => ∃ z, Good G z ∧ s' = un G z ∧ Q a p' z) (fun e p' s' => ∃ z, Good G z ∧ s' = un G z ∧ E e p' z) p (un G s) := by
  induction t with
  | pure a => intro Q E p s hn h; exact ⟨s, hn, rfl, h⟩
  | raise e => intro Q E p s hn h; exact ⟨s, hn, rfl, h⟩
  | unsupported _ => intro Q E p s _ h; exact h
  | finish _ => intro Q E p s _ h; exact h
  | rule _ k ih => intro Q E p s hn h; exact ih () Q E p s hn h
  | «at» p' k ih => intro Q E p s hn h; exact ih () Q E p' s hn h
  | load a _ k ih => intro Q E p s hn h; obtain ⟨o, ho, h⟩ := h; exact ⟨o, ho, ih o Q E p s hn h⟩
  | update a _ f k ih => intro Q E p s hn h; exact ⟨h.1, ih () Q E p { s with heap := s.heap.update a f } (hn.of rfl) h.2⟩
  | loadIfAlive a k ih => intro Q E p s hn h; exact ih _ Q E p s hn h
  | point _ k ih => intro Q E p s hn h; exact ih () Q E p s hn h
  | register _ _ => intro Q E p s _ h; exact h
  | alloc o k ih => intro Q E p s hn h; exact ih s.heap.objs.size Q E p { s with heap := s.heap.push o } (hn.of rfl) h
  | fresh k ih => intro Q E p s hn h; exact ih s.toks Q E p { s with toks := s.toks + 1 } (hn.of rfl) h
  | ask k ih => intro Q E p s hn h; exact ih _ Q E p s hn h
  | choose src m k ih => intro Q E p s hn h; exact ⟨h.1, ih (M.w.draws src (s.drawn.get src) % m) Q E p { s with drawn := s.drawn.bump src } (hn.of rfl) h.2⟩
  | os q _ k ih => intro Q E p s hn h; exact ih (Os.step s.os q).2 Q E p { s with os := (Os.step s.os q).1 } (hn.of rfl) h
  | call c hd _ _ k ih =>
    intro Q E p s hn h
    obtain ⟨r, s', hr, h⟩ := h
    obtain ⟨a, b, _⟩ := runs_un hr hn noG_nil
    exact ⟨r, un G s', a, ih r Q E p s' b h⟩
  | handled own k ih => intro Q E p s hn h; exact ih _ Q E p s hn h
  | genState g k ih =>
    intro Q E p s hn h
    obtain ⟨st, hs, h⟩ := h
    obtain ⟨st', h1, h2⟩ := un_seen hn hs
    exact ⟨st', h1, by rw [h2]; exact ih _ Q E p s hn h⟩
  | newGen c k ih =>
    intro Q E p s hn h
    have := ih _ Q E p _ (good_push hn) h
    rw [un_push hn] at this
    show wp M Γ (k (un G s).gens.size) _ _ p { un G s with gens := (un G s).gens.push (.fresh c) }
    rw [un_size]
    exact this
  | resume g r _ k ih =>
    intro Q E p s hn h
    obtain ⟨res, s', hw, h⟩ := h
    obtain ⟨a, b⟩ := wakes_un hw hn
    exact ⟨res, un G s', a, ih res Q E p s' b h⟩
  | yield _ _ _ _ => intro Q E p s _ h; exact h
  | stack k ih => intro Q E p s hn h; exact ih _ Q E p s hn h
  | fork _ _ => intro Q E p s _ h; exact h
  | thread k ih => intro Q E p s hn h; exact ih _ Q E p s hn h
  | await _ _ _ _ _ => intro Q E p s _ h; exact h
/-- every sleeping generator can't be woken -/
def sting (s : Shared) : Shared := { s with gens := s.gens.map stung }
theorem un_sting (s : Shared) : un s.gens (sting s) = s := by
  have e : (un s.gens (sting s)).gens = s.gens := by
    apply Array.ext_getElem?
    intro i
    show ((s.gens.map stung).mapIdx fun i x => pickG s.gens[i]? x)[i]? = _
    rw [Array.getElem?_mapIdx, Array.getElem?_map]
    cases q : s.gens[i]? with
    | none => rfl
    | some y =>
      show some (pickG (some y) (stung y)) = some y
      cases y <;> rfl
  show { s with gens := (un s.gens (sting s)).gens } = s
  rw [e]
theorem good_sting (s : Shared) : Good s.gens (sting s) := by
  refine ⟨?_, fun i y hy hs => ?_, fun i x h hx => ?_⟩
  · show s.gens.size ≤ (s.gens.map stung).size
    rw [Array.size_map]; exact Nat.le_refl _
  · show (s.gens.map stung)[i]? = _
    rw [Array.getElem?_map, hy]; rfl
  · have hx' : (s.gens.map stung)[i]? = some x := hx
    rw [Array.getElem?_map] at hx'
    cases q : s.gens[i]? with
    | none => rw [q] at hx'; cases hx'
    | some y =>
      rw [q] at hx'
      have := h y q
      cases hx'
      cases y <;> first | exact trivial | cases this
theorem bare_sting {s : Shared} : AllBare (sting s).gens := fun y hy => by
  obtain ⟨i, hi, e⟩ := Array.mem_iff_getElem.mp hy
  have q0 : (sting s).gens[i]? = some y := by rw [Array.getElem?_eq_getElem hi]; exact congrArg some e
  have q : (s.gens.map stung)[i]? = some y := q0
  rw [Array.getElem?_map] at q
  cases z : s.gens[i]? with
  | none => rw [z] at q; cases q
  | some x => rw [z] at q; cases q; cases x <;> rfl
theorem bare_un {z : Shared} {G : Array GenState} (hG : AllBare G) (hz : AllBare z.gens) : AllBare (un G z).gens := fun y hy => by
  obtain ⟨i, hi, e⟩ := Array.mem_iff_getElem.mp hy
  have q : (un G z).gens[i]? = some y := by rw [Array.getElem?_eq_getElem hi]; exact congrArg some e
  rw [un_get] at q
  cases w : z.gens[i]? with
  | none => rw [w] at q; cases q
  | some x =>
    rw [w] at q
    have q' : pickG G[i]? x = y := Option.some.inj q
    cases v : G[i]? with
    | none =>
      rw [v] at q'
      have : x = y := q'
      exact this ▸ hz x (Array.mem_of_getElem? w)
    | some u =>
      rw [v] at q'
      by_cases hs : sleeps u = true
      · have : u = y := by simpa [pickG, hs] using q'
        exact this ▸ hG u (Array.mem_of_getElem? v)
      · have : x = y := by simpa [pickG, hs] using q'
        exact this ▸ hz x (Array.mem_of_getElem? w)
/-- what was asleep is asleep as it was -/
def Still (G : Array GenState) (s : Shared) : Prop := ∀ (i : Nat) (y : GenState), G[i]? = some y → sleeps y = true → s.gens[i]? = some y
theorem Good.still {z : Shared} {G : Array GenState} (g : Good G z) : Still G (un G z) := fun i y hy hs => un_sleep hy hs (g.sl i y hy hs)
/-- a thing that may be done in every table of generators leaves the sleeping ones as they are -/
theorem wpAny_still {α : Type} {A : Around} {t : Sem α} {Q : α → Shared → Prop} {E : Value → Shared → Prop} {s : Shared} (h : wpAny M A t Q E (sting s)) :
    wpAny M A t (fun a s' => ∃ z, Q a z ∧ s' = un s.gens z ∧ Still s.gens s') (fun e s' => ∃ z, E e z ∧ s' = un s.gens z ∧ Still s.gens s') s := by
  intro Γ p hΓ
  have := wp_un (G := s.gens) Γ t _ _ p (sting s) (good_sting s) (h Γ p hΓ)
  rw [un_sting] at this
  exact Sem.wp_mono M Γ t (fun a p' s' ⟨z, g, e, q⟩ => ⟨z, q, e, e ▸ g.still⟩) (fun a p' s' ⟨z, g, e, q⟩ => ⟨z, q, e, e ▸ g.still⟩) p s this
end
section
variable {X : Cx} {pins : List (Addr × Obj)} {σ : L2.St} {H : Hp} {s : Shared}
theorem inv_gens {s' : Shared} (I : Inv X pins σ H s) (hh : s'.heap = s.heap) (ho : s'.os = s.os) (hb : AllBare s'.gens) : Inv X pins σ H s' :=
  ⟨I.ok, ho.trans I.os, hb, by rw [hh]; exact I.base, by rw [hh]; exact I.loc, by rw [hh]; exact I.cell, I.free, I.freeC, by rw [hh]; exact I.pin, by rw [hh]; exact I.hok, I.len⟩
theorem inv_sting (I : Inv X pins σ H s) : Inv X pins σ H (sting s) := inv_gens I rfl rfl bare_sting
theorem inv_un {z : Shared} {G : Array GenState} (hG : AllBare G) (I : Inv X pins σ H z) : Inv X pins σ H (un G z) := inv_gens I rfl rfl (bare_un hG I.bare)
end
end Z
set_option Elab.async false
set_option linter.all false
set_option maxRecDepth 100000
/-! ### a generator whose body is: for row in self.field: yield row -/
namespace Z
open PySem PySem.Spec L2 GenW
open PyProof.Rows hiding St
/-- what one turn changes -/
structure WRel (it L : Addr) (s0 s : Shared) : Prop where
  os : s.os = s0.os
  gens : s.gens = s0.gens
  keep : ∀ b o, b ≠ it → b ≠ L → s0.heap.get? b = some o → s.heap.get? b = some o
def TupQ (qs : List V) (q : Addr) (h : Heap) : Prop := ∃ its : List Value, Vals qs its ∧ h.IsTuple q its.toArray
/-- i items are out -/
structure WAt (it L q : Addr) (i : Nat) (h : Heap) : Prop where
  ns : ∃ m, h.Ns L m
  it : h.IsTupleIter it q i
def YW (it L q : Addr) (qs : List V) (N : Nat) : Protocol := fun n s0 v s1 kap =>
  ∃ i x, n + (i + 1) = N ∧ qs[i]? = some x ∧ RelV x v ∧ WRel it L s0 s1 ∧ WAt it L q (i + 1) s1.heap ∧ ∀ s'', WAt it L q (i + 1) s''.heap → TupQ qs q s''.heap → kap (.send .none) s'' ∧ kap (.send (.bool true)) s''
def FW (it L : Addr) (qs : List V) (N n : Nat) (s0 s1 : Shared) : Prop := N = n + qs.length ∧ WRel it L s0 s1
def RW (it L : Addr) (qs : List V) (N : Nat) : GenEnd := fun n s0 r s1 => ((r = .ok (.ret .none) ∨ r = .ok .next) ∧ FW it L qs N n s0 s1) ∨ ∃ e, r = .error e ∧ False
theorem WRel.refl {it L : Addr} {s : Shared} : WRel it L s s := ⟨rfl, rfl, fun _ _ _ _ e => e⟩
theorem WRel.trans {it L : Addr} {s0 s1 s2 : Shared} (a : WRel it L s0 s1) (b : WRel it L s1 s2) : WRel it L s0 s2 := ⟨b.os.trans a.os, b.gens.trans a.gens, fun c o h1 h2 e => b.keep c o h1 h2 (a.keep c o h1 h2 e)⟩
theorem WRel.toks {it L : Addr} {s0 s : Shared} {t : Nat} (a : WRel it L s0 s) : WRel it L s0 { s with toks := t } := ⟨a.os, a.gens, a.keep⟩
section
variable {prog : Program} {w : World} {A : Around} {env : Env} {it L q : Addr} {qs : List V} {p1 p2 p3 p4 p5 p6 p7 : Pos}
abbrev wBody (p4 p5 p6 : Pos) : List Stmt := [.Expr (.Yield (some (.Name "row" p4)) p5) p6]
abbrev wFor (p1 p2 p3 p4 p5 p6 p7 : Pos) (f : Str) : Stmt := .For (.Name "row" p1) (.Attribute (.Name "self" p2) f p3) (wBody p4 p5 p6) [] p7
/-- the loop's turns -/
theorem walk_loop (hsc : env.scope.kind = .function) (hrow : env.kindOf "row" = some .local) (hco : env.scope.isCoroutine = false) (hint : interactive env = false) (hL : env.locals = L) (hA : A.handled = none) (hne : it ≠ L)
    {fr : Frame} {fs : List Frame} (hfr : isGenF fr = false) (hfs : NoG fs) (hg : (fr :: fs).any Frame.guarded = false) (hover : (A.over (.forLoop (.Name "row" p1) (.ref it) (wBody p4 p5 p6) [] env) (fr :: fs)).handled = none)
    (N : Nat) (hN : N = qs.length) (hend : ∀ n s0 s, N = n + qs.length → WRel it L s0 s → Seg (model prog w) A (RW it L qs N) (YW it L q qs N) n s0 (.block [] env) (leafOf (.ok .next)) (fr :: fs) s) :
    ∀ (m i n : Nat) (s0 s : Shared), m = qs.length - i → i ≤ qs.length → n + i = N → WRel it L s0 s → WAt it L q i s.heap → TupQ qs q s.heap →
      Seg (model prog w) A (RW it L qs N) (YW it L q qs N) n s0 (.forLoop (.Name "row" p1) (.ref it) (wBody p4 p5 p6) [] env) ((model prog w).den (.forLoop (.Name "row" p1) (.ref it) (wBody p4 p5 p6) [] env)) (fr :: fs) s := by
  have hsp : splitAtGen (fr :: fs) = none := noG_split fun F hF => by
    rcases List.mem_cons.mp hF with rfl | hF
    · exact hfr
    · exact hfs F hF
  intro m
  induction m with
  | zero =>
    intro i n s0 s hm hi hn rel at_ tq
    obtain ⟨its, rv, ht⟩ := tq
    have e : i = qs.length := by omega
    subst e
    have hl := rv.length
    refine seg_forTurn (wpAny_pyNext_tuple_end hover at_.it ht (by simp; omega) fun h' eb => ?_)
    refine seg_again rfl ?_
    show Seg _ A _ _ n s0 _ ((execs [] env).onRaise _ >>= fun f => _) _ _
    rw [Sem.onRaise_eq_wrap, Sem.bind_eq_wrap', Sem.wrap_wrap]
    exact seg_execs_nil (hend n s0 { s with heap := h' } (by omega) (rel.trans (s1 := s) (s2 := { s with heap := h' }) ⟨rfl, rfl, fun b o hb _ e => eb b o hb e⟩))
  | succ m ih =>
    intro i n s0 s hm hi hn rel at_ tq
    have hlt : i < qs.length := by omega
    obtain ⟨its, rv, ht⟩ := id tq
    obtain ⟨u, hu, ru⟩ := rv.get (i := i) (x := qs[i]) (by simp [hlt])
    refine seg_forTurn (wpAny_pyNext_tuple_item at_.it ht (x := u) (by simpa using hu) fun h' st' sb => ?_)
    obtain ⟨o, e, c, d⟩ := id st'
    refine go_of (s := { s with heap := h' }) e c d (by decide) ?_
    obtain ⟨mm, hns⟩ := at_.ns
    have hns' : h'.Ns L mm := hns.at' fun o e => (sb.2 L (Ne.symm hne)).trans e
    refine wpAny_assign_Name (wpAny_storeName_local hrow (by rw [hL]; exact hns') (fun h2 hn2 sb2 => ?_) (by rw [hsc]; rfl))
    obtain ⟨n', rfl⟩ : ∃ k, n = k + 1 := ⟨n - 1, by omega⟩
    rw [hL] at hn2 sb2
    refine seg_execs_cons (seg_Expr_Yield hsp rfl hg ?_ hco hint)
    refine wpAny_Name (wpAny_loadName_local hsc hrow (by rw [hL]; exact hn2) (v := u) (by simp) ?_)
    intro kap hk
    have it2 : h2.IsTupleIter it q (i + 1) := st'.at fun o e => (sb2.2 it hne).trans e
    refine ⟨i, qs[i], by omega, by simp [hlt], ru, rel.trans ⟨rfl, rfl, fun b o hb1 hb2 e => (sb2.2 b hb2).trans ((sb.2 b hb1).trans e)⟩, ⟨⟨_, hn2⟩, it2⟩, fun s'' at2 tq2 => ?_⟩
    have go := seg_execs_nil (env := env) (K := turnEnd (.forLoop (.Name "row" p1) (.ref it) (wBody p4 p5 p6) [] env)) (H := outBy env) (gd := id) (lv := id) (seg_again (c := .forLoop (.Name "row" p1) (.ref it) (wBody p4 p5 p6) [] env) rfl (ih (i + 1) n' s'' s'' (by omega) (by omega) (by omega) .refl at2 tq2))
    exact ⟨hk .none s'' go, hk (.bool true) s'' go⟩
/-- from the beginning -/
theorem walk_start {f : Str} {m0 : Str → Option Value} {o : Addr} (hsc : env.scope.kind = .function) (hself : env.kindOf "self" = some .local) (hrow : env.kindOf "row" = some .local) (hco : env.scope.isCoroutine = false) (hint : interactive env = false) (hL : env.locals = L) (hA : A.handled = none)
    {s : Shared} (hns : s.heap.Ns L m0) (hm : m0 "self" = some (.ref o)) (hlt : L < s.heap.objs.size)
    (hget : ∀ (A : Around) (E : Value → Shared → Prop) (Q : Value → Shared → Prop), Q (.ref q) { s with toks := s.toks + 1 } → wpAny (model prog w) A (getAttr (.ref o) f true) Q E s) (tq : TupQ qs q s.heap)
    (hab : ∀ X : Value → Prop, attributeBase (.Name "self" p2) f env (eval (.Name "self" p2) env) = eval (.Name "self" p2) env) :
    Seg (model prog w) A (RW s.heap.objs.size L qs qs.length) (YW s.heap.objs.size L q qs qs.length) qs.length s (.func [wFor p1 p2 p3 p4 p5 p6 p7 f] env) ((model prog w).den (.func [wFor p1 p2 p3 p4 p5 p6 p7 f] env)) [] s := by
  refine seg_func (seg_execs_cons (seg_ForS (fun x => rfl) ?_))
  refine attr_of (hab fun _ => True) (wpAny_Name (wpAny_loadName_local hsc hself (by rw [hL]; exact hns) hm ?_))
  refine hget _ _ _ ?_
  obtain ⟨its, rv, ht⟩ := tq
  refine wpAny_pyIter_tuple (show ({ s with toks := s.toks + 1 } : Shared).heap.IsTuple q its.toArray from ht) ?_
  intro p
  have kp : ∀ b ob, s.heap.get? b = some ob → (s.heap.push { cls := .type "tuple_iterator", data := .fields #[.ref q, .int 0 0] }).get? b = some ob := fun b ob e => Heap.get?_push_of_some _ e
  refine walk_loop hsc hrow hco hint hL hA (Nat.ne_of_gt hlt) (fr := _) (fs := []) rfl noG_nil rfl ?_ qs.length rfl (fun n s0 s1 hn rel => ?_) qs.length 0 qs.length _ _ (by omega) (Nat.zero_le _) rfl
    ⟨rfl, rfl, fun b ob _ _ e => kp b ob e⟩ ⟨⟨m0, hns.at' fun ob e => kp L ob e⟩, ⟨_, Heap.get?_push_size _ rfl, rfl, rfl⟩⟩ ⟨its, rv, ht.at fun ob e => kp _ ob e⟩
  · exact hA
  · refine seg_leaf (.ok .next) ?_
    exact seg_execs_nil (env := env) (seg_end (.ok (.ret .none)) (.inl ⟨.inl rfl, by omega, rel⟩))
end
end Z
set_option Elab.async false
set_option linter.all false
set_option maxRecDepth 100000
/-! ### the steps of such a generator, seen from outside -/
namespace Z
open PySem PySem.Spec L2 GenW
open PyProof.Rows hiding St
theorem tup_ne_it {h : Heap} {it q : Addr} {its : Array Value} {i : Nat} (ht : h.IsTuple q its) (hi : h.IsTupleIter it q i) : q ≠ it := fun z => by
  obtain ⟨o, ho, hc, _, hd⟩ := ht
  obtain ⟨o2, ho2, hc2, hd2⟩ := hi
  rw [z, ho2] at ho; cases ho
  rw [hd2] at hd; cases hd
theorem tup_ne_ns {h : Heap} {L q : Addr} {its : Array Value} {m : Str → Option Value} (ht : h.IsTuple q its) (hn : h.Ns L m) : q ≠ L := fun z => by
  obtain ⟨o, ho, hc, _, hd⟩ := ht
  obtain ⟨o2, es, ep, ho2, hd2, _⟩ := hn
  rw [z, ho2] at ho; cases ho
  rw [hd2] at hd; cases hd
theorem gen_ne_ns {h : Heap} {a L : Addr} {g : Nat} {m : Str → Option Value} (ha : h.IsGen a g) (hn : h.Ns L m) : a ≠ L := fun z => by
  obtain ⟨o, x, y, ho, hc, hd, _⟩ := ha
  obtain ⟨o2, es, ep, ho2, hd2, _⟩ := hn
  rw [z, ho2] at ho; cases ho
  rw [hd2] at hd; cases hd
theorem gen_ne_it {h : Heap} {a it q : Addr} {g i : Nat} (ha : h.IsGen a g) (hi : h.IsTupleIter it q i) : a ≠ it := fun z => by
  obtain ⟨o, x, y, ho, hc, hd, _⟩ := ha
  obtain ⟨o2, ho2, hc2, hd2⟩ := hi
  rw [z, ho2] at ho; cases ho
  rw [hc2] at hc
  exact absurd hc (by decide)
theorem ns_ne_it {h : Heap} {L it q : Addr} {i : Nat} {m : Str → Option Value} (hn : h.Ns L m) (hi : h.IsTupleIter it q i) : it ≠ L := fun z => by
  obtain ⟨o2, es, ep, ho2, hd2, _⟩ := hn
  obtain ⟨o, ho, hc, hd⟩ := hi
  rw [z, ho2] at ho; cases ho
  rw [hd2] at hd; cases hd
section
variable {P : Program} {w : World} {A : Around} {a it L q : Addr} {g : Nat} {qs : List V}
/-- i items are out, it sleeps -/
structure GAt (P : Program) (w : World) (A : Around) (a it L q : Addr) (g : Nat) (qs : List V) (i : Nat) (s : Shared) : Prop where
  gs : ∃ gs : GenState, s.gens[g]? = some gs ∧ sleeps gs = true ∧ gs.bare = true ∧ ∀ s'', WAt it L q i s''.heap → TupQ qs q s''.heap → gs.Goes (model P w) A.in1 (RW it L qs qs.length) (YW it L q qs qs.length) (qs.length - i) (.send .none) s''
  at_ : WAt it L q i s.heap
  gen : s.heap.IsGen a g
/-- behind a step -/
structure GStep (it L : Addr) (g : Nat) (s s1 : Shared) : Prop where
  os : s1.os = s.os
  bare : AllBare s.gens → AllBare s1.gens
  keep : ∀ b o, b ≠ it → b ≠ L → s.heap.get? b = some o → s1.heap.get? b = some o
theorem tupQ_keep {s1 : Shared} {s : Shared} (tq : TupQ qs q s.heap) (h1 : q ≠ it) (h2 : q ≠ L) (k : ∀ b o, b ≠ it → b ≠ L → s.heap.get? b = some o → s1.heap.get? b = some o) : TupQ qs q s1.heap := by
  obtain ⟨its, rv, ht⟩ := tq
  exact ⟨its, rv, ht.at fun o e => k q o h1 h2 e⟩
theorem gen_step {gs : GenState} {s : Shared} {i : Nat} {Q : Option Value → Shared → Prop} {E : Value → Shared → Prop} (hh : A.handled = none) (hl : s.heap.NoLimit) (hroom : A.depth < recursionLimit) (hg : s.heap.IsGen a g) (hgs : s.gens[g]? = some gs)
    (hgo : gs.Goes (model P w) A.in1 (RW it L qs qs.length) (YW it L q qs qs.length) (qs.length - i) (.send .none) (s.setGen g .running)) (hi : i ≤ qs.length) (tq : TupQ qs q s.heap) (q1 : q ≠ it) (q2 : q ≠ L) (a1 : a ≠ it) (a2 : a ≠ L)
    (hY : ∀ v x s1, qs[i]? = some x → RelV x v → GStep it L g s s1 → GAt P w A a it L q g qs (i + 1) s1 → Q (some v) s1)
    (hP : ∀ s1, i = qs.length → GStep it L g s s1 → Q none s1) :
    wpAny (model P w) A (pyNext (.ref a)) Q E s := by
  have gsz : g < s.gens.size := (Array.getElem?_eq_some_iff.mp hgs).1
  refine next_genG hh hl hroom hg hgs hgo (fun v s₁ gs' hb hy => ?_) (fun s₁ hp h' hk => ?_) fun e s₁ he => he.elim
  · obtain ⟨j, x, hj, hx, rv, rel, at1, hk⟩ := hy
    have rel' : ∀ b o, b ≠ it → b ≠ L → s.heap.get? b = some o → s₁.heap.get? b = some o := rel.keep
    have tq1 := tupQ_keep tq q1 q2 rel'
    have k0 := (hk s₁ at1 tq1).2
    cases hn : qs.length - i with
    | zero => rw [hn] at k0; exact k0.elim
    | succ m =>
      rw [hn] at hj k0 hk
      have ej : j = i := by omega
      subst ej
      have sl : sleeps gs' = true := by
        have k0' : gs'.Goes (model P w) A.in1 (RW it L qs qs.length) (YW it L q qs qs.length) m (.send (.bool true)) s₁ := k0
        cases gs' with
        | fresh c => exact absurd k0'.1 (by intro z; cases z)
        | suspended => rfl
        | running => exact k0'.elim
        | finished => exact k0'.elim
      have gens1 : s₁.gens = (s.setGen g .running).gens := rel.gens
      have sz1 : g < s₁.gens.size := by rw [gens1, GenW.setGen_size]; exact gsz
      refine hY v x _ hx rv ⟨rel.os, fun hb0 => ?_, rel'⟩ ⟨⟨gs', setGen_at sz1, sl, hb, fun s'' at2 tq2 => ?_⟩, at1, ?_⟩
      · refine allBare_setGen ?_ hb
        rw [gens1]
        exact allBare_setGen hb0 rfl
      · have := (hk s'' at2 tq2).1
        have e : qs.length - (j + 1) = m := by omega
        rw [e]
        exact this
      · obtain ⟨o, x1, y1, ho, r⟩ := hg
        exact ⟨o, x1, y1, rel' a o a1 a2 ho, r⟩
  · obtain ⟨hn, rel⟩ := hp
    have gens1 : s₁.gens = (s.setGen g .running).gens := rel.gens
    refine hP _ (by omega) ⟨rel.os, fun hb0 => ?_, fun b o h1 h2 e => hk b o (rel.keep b o h1 h2 e)⟩
    refine allBare_setGen ?_ rfl
    rw [gens1]
    exact allBare_setGen hb0 rfl
end
section
variable {X : Cx} {pins : List (Addr × Obj)} {σ : L2.St} {H : Hp} {s s1 : Shared} {it L : Addr} {g : Nat}
/-- a step is none of ours -/
theorem inv_gstep (I : Inv X pins σ H s) (st : GStep it L g s s1) (f1 : FpOk X pins H it) (f2 : FpOk X pins H L) : Inv X pins σ H s1 := by
  obtain ⟨z1, z2, z3⟩ := st
  obtain ⟨hh, gg, d, t, o⟩ := s1
  have ho : o = s.os := z1
  subst ho
  have nm : ∀ b u, H b = some u → b ≠ it ∧ b ≠ L := fun b u e => ⟨fun z => (by rw [z, f1.1] at e; cases e), fun z => (by rw [z, f2.1] at e; cases e)⟩
  have nc : ∀ b, b ∉ [it, L] → b ≠ it ∧ b ≠ L := fun b hb => ⟨fun z => hb (by rw [z]; simp), fun z => hb (by rw [z]; simp)⟩
  refine I.step (g' := gg) (t' := t) (d' := d) (ch := [it, L]) (fun b hb => ?_) (fun b ob _ _ hc q _ => z3 b ob (nc b hc).1 (nc b hc).2 q) (fun b ob _ _ hc q _ => ⟨ob.slots, z3 b ob (nc b hc).1 (nc b hc).2 q⟩) (fun _ _ _ _ n => n)
    (fun b ob hc q => ⟨ob, z3 b ob (nc b hc).1 (nc b hc).2 q⟩) (fun _ _ q => q) (fun _ _ _ q => q) (fun b ps q => ⟨#[], by rw [q]; simp⟩) (fun m hm => ?_) (fun b u q => ?_) (z2 I.bare)
  · rcases List.mem_cons.mp hb with rfl | hb
    · exact ⟨f1.2.2.2.1, f1.2.1, f1.2.2.2.2.1, f1.2.2.2.2.2⟩
    · rw [List.mem_singleton.mp hb]
      exact ⟨f2.2.2.2.1, f2.2.1, f2.2.2.2.2.1, f2.2.2.2.2.2⟩
  · obtain ⟨ob, es, ep, ho, r⟩ := hm
    exact ⟨ob, es, ep, z3 _ ob (Ne.symm f1.2.1) (Ne.symm f2.2.1) ho, r⟩
  · refine (I.hok b u q).stay (fun c v hc y => z3 c v ?_ ?_ y) (fun _ y => y) fun _ _ y => y
    · rcases hc with y | y
      · rw [y]; exact (nm b u q).1
      · exact (nm c _ y).1
    · rcases hc with y | y
      · rw [y]; exact (nm b u q).2
      · exact (nm c _ y).2
end
end Z
set_option Elab.async false
set_option linter.all false
set_option maxRecDepth 100000
set_option maxHeartbeats 1000000
/-! ### such a generator made by a call -/
namespace Z
open PySem PySem.Spec L2 GenW
open PyProof.Rows hiding St
/-- a generator that has not begun -/
structure WNew (P : Program) (w : World) (fl : Str) (o a L : Addr) (g : Nat) (s : Shared) : Prop where
  gen : s.heap.IsGen a g
  gs : ∃ env p1 p2 p3 p4 p5 p6 p7, s.gens[g]? = some (.fresh (.func [wFor p1 p2 p3 p4 p5 p6 p7 fl] env)) ∧ env.scope.kind = .function ∧ env.kindOf "self" = some .local ∧ env.kindOf "row" = some .local ∧ env.scope.isCoroutine = false ∧
    interactive env = false ∧ env.locals = L ∧ attributeBase (.Name "self" p2) fl env (eval (.Name "self" p2) env) = eval (.Name "self" p2) env
  ns : ∃ m, s.heap.Ns L m ∧ m "self" = some (.ref o)
structure WMade (P : Program) (w : World) (fl : Str) (o : Addr) (s : Shared) (u : Value) (s' : Shared) : Prop where
  ex : ∃ a L g, u = .ref a ∧ s.heap.objs.size ≤ a ∧ s.heap.objs.size ≤ L ∧ WNew P w fl o a L g s'
  os : s'.os = s.os
  bare : AllBare s'.gens
  keep : ∀ b ob, s.heap.get? b = some ob → s'.heap.get? b = some ob
structure WFn (P : Program) (w : World) (K : PySem.W.Frag) (mg : Str → Option Value) (base : Heap) (k : Nat) (f : Addr) (fd : FuncData) (fl : Str) : Prop where
  run : ∀ (A : Around) (outer : List Env) (s : Shared) (H : Hp) (args : Args) (o : Addr), Room k A → Env0 P w K mg base A outer s H → BindsTo s fd args (([("self" : Str)]).zip [Value.ref o]) →
    codeAny (model P w) A (.call (.ref f) args) (fun r s' => match r with | .ok (.ret u) => WMade P w fl o s u s' | _ => False) s
theorem wfn_of {P : Program} {w : World} {K : PySem.W.Frag} {mg : Str → Option Value} {base : Heap} {x qual : Str} {st : Stmt} {f : Addr} {fd : FuncData} {fl : Str} {p1 p2 p3 p4 p5 p6 p7 : Pos} (F : Fun K x qual st f fd) (S : GScope ["self", "row"] ["self"] (defScope st)) (k : Nat)
    (hbody : defBody st = [wFor p1 p2 p3 p4 p5 p6 p7 fl]) (hl1 : (defScope st).names.lookup ("self" : Str) = some .local) (hl2 : (defScope st).names.lookup ("row" : Str) = some .local)
    (hi : ∀ n cdv, interactive (envOfC qual (defScope st) n f cdv) = false) (hab : ∀ n cdv, attributeBase (.Name "self" p2) fl (envOfC qual (defScope st) n f cdv) (eval (.Name "self" p2) (envOfC qual (defScope st) n f cdv)) = eval (.Name "self" p2) (envOfC qual (defScope st) n f cdv)) :
    WFn P w K mg base (k + 1) f fd fl := by
  obtain ⟨oc, od, kV, doc, pm, an, cdv, ct, osl, rfl, lk, hcd⟩ := F.ex
  refine ⟨fun A outer s H args o hr e0 hb => ?_⟩
  have KX : K.In s.heap := e0.mod.kin.keeps fun b ob e => (e0.bs b ob e).1
  have lim : s.heap.NoLimit := e0.mod.nolimit.keeps fun b ob e => (e0.bs b ob e).1
  have hkind : ∀ y ∈ (["self"] : List Str).zip [Value.ref o], (defScope st).names.lookup y.1 = some .local ∨ ((defScope st).names.lookup y.1 = some .cell ∧ ((cellsFrom (s.heap.objs.size + 1) (defScope st).names []).lookup y.1).isSome = true) := fun y hy => by
    rw [List.mem_singleton.mp hy]
    exact .inl hl1
  refine codeAny_call_generator hr.depth (KX _ _ lk) rfl S.co S.gen rfl (PySem.W.codeRec_of KX hcd) (hb _ _ _ _ ?_)
  refine wpAny_newFunctionEnv_cells S.kind hkind fun env he s1 x => ?_
  subst he
  refine ⟨lim.keeps x.toInCall.keep, ?_⟩
  obtain ⟨h1, tk, es1, hk1⟩ := x.done
  have os1 : s1.os = s.os := by rw [es1]
  have gen1 : s1.gens = s.gens := by rw [es1]
  have lt1 : s.heap.objs.size < s1.heap.objs.size := x.toInCall.ns.lt
  have mk : ∀ (go : Obj) (nm qn : Value) (tk2 : Nat), go.cls = .type "generator" → go.data = .fields #[.int s1.gens.size 0, nm, qn] → go.slots = #[] → (∀ h : Heap, (h.push go).get? h.objs.size = some go) →
      WMade P w fl o s (.ref s1.heap.objs.size) { s1 with gens := s1.gens.push (.fresh (.func (defBody st) (envOfC qual (defScope st) s.heap.objs.size f cdv))), toks := tk2, heap := s1.heap.push go } := by
    intro go nm qn tk2 hgc hgd hgs hgp
    refine ⟨⟨s1.heap.objs.size, s.heap.objs.size, s1.gens.size, rfl, Nat.le_of_lt lt1, Nat.le_refl _, ⟨⟨go, nm, qn, hgp _, hgc, hgd, hgs⟩, ?_, ?_⟩⟩, os1, AllBare.push (by rw [gen1]; exact e0.bare) rfl, fun b ob e => Heap.get?_push_of_some _ (x.toInCall.keep b ob e)⟩
    · refine ⟨envOfC qual (defScope st) s.heap.objs.size f cdv, p1, p2, p3, p4, p5, p6, p7, ?_, S.kind, hl1, hl2, S.co, hi _ _, rfl, hab _ _⟩
      rw [hbody]
      exact Array.getElem?_push_size ..
    · refine ⟨_, x.toInCall.ns.at' fun ob e => Heap.get?_push_of_some _ e, ?_⟩
      exact bindL_get (P := [("self" : Str)]) (vs := [Value.ref o]) (i := 0) (by decide) rfl rfl hl1
  exact mk _ _ _ _ rfl rfl rfl fun h => Heap.get?_push_size _ rfl
/-! o.m() of such a method -/
section
variable {X : Cx} {k : Nat} {C f : Addr} {fd : FuncData} {fl m : Str} {o : Expr} {ta : TE} {pos' apos : Pos}
/-- what a walk over o.m() needs: the object, the tuple in its field -/
def tWk (K : PySem.W.Frag) (C : Addr) (m fl : Str) (ta : TE) : St → Hp → (Addr → Addr → List V → Hp → Prop) → Prop := fun σ H R => ta σ H fun x H1 => ∃ a dx fs q qs, x = .ref a ∧ H1 a = some (.ins C dx fs) ∧ fs.lookup m = none ∧ fs.lookup fl = some (.ref q) ∧ SqT K H1 q qs ∧ qs.length < 1000 ∧ R a q qs H1
structure PWk (X : Cx) (C : Addr) (fl : Str) (e : Expr) (tw : St → Hp → (Addr → Addr → List V → Hp → Prop) → Prop) : Prop where
  run : ∀ (pins : List (Addr × Obj)) (s : Shared) (σ : L2.St) (H : Hp) (R : Addr → Addr → List V → Hp → Prop), Inv X pins σ H s → tw σ H R → wpAny (model X.prog X.w) X.A (eval e X.env)
    (fun u s' => ∃ o q qs H1 a L g, u = .ref a ∧ Inv X pins σ H1 s' ∧ FpOk X pins H1 a ∧ FpOk X pins H1 L ∧ WNew X.prog X.w fl o a L g s' ∧ (∃ dx fs, H1 o = some (.ins C dx fs) ∧ fs.lookup fl = some (.ref q)) ∧ SqT X.K H1 q qs ∧ qs.length < 1000 ∧ R o q qs H1) X.xe s
theorem pwk_meth0 {pl : Sem Bool} (he : PE X o ta) (c : Cls X.K C) (hm : Meth X.K C m f) (F : WFn X.prog X.w X.K X.mg X.base k f fd fl) (hr : Room k X.A) (hb : Binds X.K fd ["self"] [])
    (ht : eval (.Call (.Attribute o m apos) [] [] pos') X.env = (do
      let ov ← eval o X.env
      standAt apos.atName
      let (f, first) ← holding [ov] (getMethod ov m pl)
      callWith pos' f first (backTo pos' (starEach [] X.env)) (backToKw pos' (keywordEach [] X.env))) := by rfl) :
    PWk X C fl (.Call (.Attribute o m apos) [] [] pos') (tWk X.K C m fl ta) := by
  refine ⟨fun pins s σ H R I h => ?_⟩
  refine PySem.W.methodCall_KW (pl := pl) (thn (he.run pins s σ H _ I h) fun u s1 ⟨x, H1, I1, rx, a, dx, fs, q, qs, ex, ea, l, lf, hq, hl, hR⟩ => ?_) ht
  subst ex
  obtain rfl : u = Value.ref a := rx
  refine getmeth_ok I1 ea c hm l ?_
  refine PySem.W.callWith_K0 (first := [.ref a]) I1.kIn hm.kp (wpAny_call (codeAny_mono (F.run X.A X.stack s1 H1 ⟨[.ref a], []⟩ a hr I1.env0 (hb s1 [.ref a] I1.kIn rfl)) fun r s2 hq2 => ?_))
  cases r with
  | error e => exact False.elim hq2
  | ok z =>
    cases z with
    | next => exact False.elim hq2
    | brk => exact False.elim hq2
    | cont => exact False.elim hq2
    | ret u =>
      obtain ⟨⟨a2, L, g, eu, z1, z2, wn⟩, os, bare, keep⟩ := hq2
      have I2 : Inv X pins σ H1 s2 := I1.call' (ch := []) os (Un.kept keep) (I1.hok.kept keep) bare fun b z => by simp at z
      have n1 := I1.hok.fresh z1
      have n2 := I1.hok.fresh z2
      exact ⟨a, q, qs, H1, a2, L, g, eu, I2, I1.fpOk z1 n1, I1.fpOk z2 n2, wn, ⟨dx, fs, ea, lf⟩, hq, hl, hR⟩
end
end Z
set_option Elab.async false
set_option linter.all false
set_option maxRecDepth 100000
set_option maxHeartbeats 1000000
/-! ### for target in o.m(): body, where the generator sleeps while the body works -/
namespace Z
open PySem PySem.Spec L2 GenW
open PyProof.Rows hiding St
/-- an exception that leaves does not ask which generators there are -/
def XG (X : Cx) : Prop := ∀ (G : Array GenState) (e : Value) (z : Shared), AllBare G → X.xe e z → X.xe e (un G z)
section
variable {X : Cx} {C : Addr} {fl : Str} {e : Expr} {tw : St → Hp → (Addr → Addr → List V → Hp → Prop) → Prop}
/-- where it stands ahead of turn i -/
def GSt (X : Cx) (C : Addr) (fl : Str) (a L : Addr) (gn : Nat) (o q : Addr) (qs : List V) (pins : List (Addr × Obj)) (i : Nat) (H : Hp) (s : Shared) : Prop :=
  (i = 0 ∧ (∃ dx fs, H o = some (.ins C dx fs) ∧ fs.lookup fl = some (.ref q)) ∧ WNew X.prog X.w fl o a L gn s) ∨ ∃ it, FpOk X pins H it ∧ GAt X.prog X.w X.A a it L q gn qs i s
theorem gst_next {pins : List (Addr × Obj)} {σ : L2.St} {H : Hp} {s : Shared} {a L o q : Addr} {gn i : Nat} {qs : List V} {Q : Option Value → Shared → Prop} {E : Value → Shared → Prop} (hh : X.A.handled = none) (hd : X.A.depth < recursionLimit) (c : Cls X.K C) (nf : NoAttr X.K C fl)
    (I : Inv X pins σ H s) (fL : FpOk X pins H L) (hi : i ≤ qs.length) (hq : SqT X.K H q qs) (st : GSt X C fl a L gn o q qs pins i H s)
    (hY : ∀ v x it s4, qs[i]? = some x → RelV x v → FpOk X pins H it → Inv X pins σ H s4 → GAt X.prog X.w X.A a it L q gn qs (i + 1) s4 → Q (some v) s4) (hP : ∀ s4, i = qs.length → Inv X pins σ H s4 → Q none s4) :
    wpAny (model X.prog X.w) X.A (pyNext (.ref a)) Q E s := by
  have tq : TupQ qs q s.heap := by
    obtain ⟨its, rv, p, hz⟩ := I.tuple hq
    exact ⟨its, rv, p⟩
  obtain ⟨it, gs, hgs, hgo, hgen, fit, q1, q2, a1, a2⟩ : ∃ (it : Addr) (gs : GenState), s.gens[gn]? = some gs ∧ gs.Goes (model X.prog X.w) X.A.in1 (RW it L qs qs.length) (YW it L q qs qs.length) (qs.length - i) (.send .none) (s.setGen gn .running) ∧ s.heap.IsGen a gn ∧ FpOk X pins H it ∧ q ≠ it ∧ q ≠ L ∧ a ≠ it ∧ a ≠ L := by
    rcases st with ⟨rfl, ⟨dx, fs, ho, lf⟩, wn⟩ | ⟨it, fit, gat⟩
    · obtain ⟨env, p1, p2, p3, p4, p5, p6, p7, hgs, e1, e2, e3, e4, e5, e6, e7⟩ := wn.gs
      obtain ⟨m, hns, hm⟩ := wn.ns
      obtain ⟨its, rv, ht⟩ := id tq
      obtain ⟨oq, hoq, _⟩ := id ht
      have lq := Heap.lt_size hoq
      obtain ⟨og, nm, qn, eg, _⟩ := id wn.gen
      have la := Heap.lt_size eg
      have lL : L < s.heap.objs.size := hns.lt
      have Ir : Inv X pins σ H (s.setGen gn .running) := inv_gens I rfl rfl (allBare_setGen I.bare rfl)
      refine ⟨s.heap.objs.size, _, hgs, ⟨rfl, ?_⟩, wn.gen, (I.fpOk (Nat.le_refl _) (I.hok.fresh (Nat.le_refl _))), Nat.ne_of_lt lq, tup_ne_ns ht hns, Nat.ne_of_lt la, gen_ne_ns wn.gen hns⟩
      refine walk_start (A := X.A.in1) (prog := X.prog) (w := X.w) e1 e2 e3 e4 e5 e6 hh (s := s.setGen gn .running) hns hm lL (fun A E Q hQ => ?_) tq fun _ => e7
      obtain ⟨mA, O, r, _, _, _⟩ := ins_get Ir.hok ho
      obtain ⟨u, hu, ru⟩ := RelO.some_of (v := V.ref q) (o := mA fl) (by rw [← lf]; exact r fl)
      have eu : u = Value.ref q := ru
      subst eu
      exact get_map Ir.kIn O (c.get fl) c.hd nf hu (handed_of (v := V.ref q) rfl) hQ
    · obtain ⟨gs, h1, h2, h3, h4⟩ := gat.gs
      obtain ⟨m, hns⟩ := gat.at_.ns
      obtain ⟨its, rv, ht⟩ := id tq
      exact ⟨it, gs, h1, h4 (s.setGen gn .running) gat.at_ tq, gat.gen, fit, tup_ne_it ht gat.at_.it, tup_ne_ns ht hns, gen_ne_it gat.gen gat.at_.it, gen_ne_ns gat.gen hns⟩
  exact gen_step hh I.nolimit hd hgen hgs hgo hi tq q1 q2 a1 a2 (fun v x s4 hx rv st gat => hY v x it s4 hx rv fit (inv_gstep I st fit fL) gat) fun s4 hn st => hP s4 hn (inv_gstep I st fit fL)
/-- its cells -/
theorem gat_obj {P : Program} {w : World} {A : Around} {a it L q : Addr} {g i : Nat} {qs : List V} {s : Shared} (gat : GAt P w A a it L q g qs i s) : ∀ b ∈ [a, L, it], ∃ o, s.heap.get? b = some o ∧ ∀ v, o.data ≠ .cell v := fun b hb => by
  rcases List.mem_cons.mp hb with rfl | hb
  · obtain ⟨og, nm, qn, eg, cg, dg, sg⟩ := gat.gen
    exact ⟨og, eg, fun v z => by rw [dg] at z; cases z⟩
  · rcases List.mem_cons.mp hb with rfl | hb
    · obtain ⟨m, o, es, ep, e, d, _⟩ := gat.at_.ns
      exact ⟨o, e, fun v z => by rw [d] at z; cases z⟩
    · rw [List.mem_singleton.mp hb]
      obtain ⟨o, e, c, d⟩ := gat.at_.it
      exact ⟨o, e, fun v z => by rw [d] at z; cases z⟩
/-- it slept on -/
theorem gat_on {P : Program} {w : World} {A : Around} {a it L q : Addr} {g i : Nat} {qs : List V} {s s' : Shared} (gat : GAt P w A a it L q g qs i s) (k : Still s.gens s') (pk : ∀ b ∈ [a, L, it], ∀ o, s.heap.get? b = some o → s'.heap.get? b = some o) : GAt P w A a it L q g qs i s' := by
  obtain ⟨gs', h1, h2, h3, h4⟩ := gat.gs
  obtain ⟨og, nm, qn, eg, r⟩ := gat.gen
  obtain ⟨m, hns⟩ := gat.at_.ns
  exact ⟨⟨gs', k _ _ h1 h2, h2, h3, h4⟩, ⟨⟨m, hns.at' fun o e => pk L (by simp) o e⟩, gat.at_.it.at fun o e => pk it (by simp) o e⟩, ⟨og, nm, qn, pk a (by simp) og eg, r⟩⟩
theorem Still.trans {G : Array GenState} {s s' : Shared} (h : Still G s) (k : Still s.gens s') : Still G s' := fun i y e z => k i y (h i y e z) z
def tForW (K : PySem.W.Frag) (tw : St → Hp → (Addr → Addr → List V → Hp → Prop) → Prop) (g : TG) (tb : TS) : TS := fun D σ H => tw σ H fun o q qs H1 => ∃ W : Nat → St → Hp → Prop, W 0 σ H1 ∧ (∀ i σ H, W i σ H → SqT K H q qs) ∧
  (∀ i x σ H, qs[i]? = some x → W i σ H → g x σ H fun σ2 H2 => tb { D with nx := W (i + 1), ct := W (i + 1), bk := D.nx } σ2 H2) ∧ ∀ σ H, W qs.length σ H → D.nx σ H
theorem still_step {α : Type} {t : Sem α} {Q : α → Shared → Prop} {s : Shared} (hxg : XG X) (hb : AllBare s.gens) (h : wpAny (model X.prog X.w) X.A t Q X.xe (sting s)) :
    wpAny (model X.prog X.w) X.A t (fun a s' => ∃ z, Q a z ∧ s' = un s.gens z ∧ Still s.gens s') X.xe s :=
  wpAny_mono (wpAny_still h) (fun _ _ q => q) fun e s' ⟨z, hx, he, _⟩ => by rw [he]; exact hxg _ _ _ hb hx
theorem ps_forW {tg : Expr} {body : List Stmt} {g : TG} {tb : TS} {pos : Pos} (hxg : XG X) (hp : PassesOwn (model X.prog X.w) X.A X.env X.xe) (hc : X.calm = true) (hw : PWk X C fl e tw) (c : Cls X.K C) (nf : NoAttr X.K C fl) (hg : PG X tg g) (hb : PSs X body tb) (hd : X.A.depth < recursionLimit)
    (hs : ∀ x, foldedSetIterable e X.env x = pure x := by intro _; rfl) : PS X (.For tg e body [] pos) (tForW X.K tw g tb) := by
  refine ⟨fun pins s σ H D I h => ?_⟩
  refine wpAny_For (thn (hw.run pins s σ H _ I h) fun u s1 h1 => ?_) hs
  obtain ⟨o, q, qs, H1, a, L, gn, rfl, I1, fa, fL, wn, ⟨dx, fs, ho, lf⟩, hq, hl, W, w0, wq, step, done⟩ := h1
  refine wpAny_pyIter_gen wn.gen ?_
  have hh : X.A.handled = none := I.ok.hd hc
  refine codeAny_forLoop_any (fun n s' => ∃ i σ' H', n = qs.length - i ∧ i ≤ qs.length ∧ Inv X pins σ' H' s' ∧ W i σ' H' ∧ FpOk X pins H' a ∧ FpOk X pins H' L ∧ GSt X C fl a L gn o q qs pins i H' s') ?_ qs.length ⟨0, σ, H1, rfl, Nat.zero_le _, I1, w0, fa, fL, .inl ⟨rfl, ⟨dx, fs, ho, lf⟩, wn⟩⟩
  rintro n s3 ⟨i, σ3, H3, rfl, hi, I3, w3, fa3, fL3, hst⟩
  refine gst_next hh hd c nf I3 fL3 hi (wq i σ3 H3 w3) hst (fun v x it s4 hx rv fit I4 gat => ?_) fun s4 hn I4 => ?_
  · obtain ⟨og, nm, qn, eg, cg, dg, sg⟩ := id gat.gen
    refine go_of eg cg dg (by decide) ?_
    have stat : ∀ {H' : Hp}, (∀ b ∈ [a, L, it], H' b = none) → ∀ b ∈ [a, L, it], FpOk X pins H' b := fun {H'} hn b hb => by
      refine ⟨hn b hb, ?_⟩
      rcases List.mem_cons.mp hb with rfl | hb
      · exact fa3.2
      · rcases List.mem_cons.mp hb with rfl | hb
        · exact fL3.2
        · rw [List.mem_singleton.mp hb]; exact fit.2
    have I4' := I4.pinned (stat fun b hb => by
      rcases List.mem_cons.mp hb with rfl | hb
      · exact fa3.1
      · rcases List.mem_cons.mp hb with rfl | hb
        · exact fL3.1
        · rw [List.mem_singleton.mp hb]; exact fit.1) (gat_obj gat)
    refine wpAny_passesOwn hp (thn (still_step hxg I4.bare (hg.run _ (sting s4) σ3 H3 x v _ (inv_sting I4') rv (step i x σ3 H3 hx w3))) fun _ s6 ⟨z6, ⟨σ6, H6, J6, q6⟩, e6, k6⟩ => ?_)
    have I6 := inv_un I4.bare J6
    rw [← e6] at I6
    refine wpAny_passesOwn hp (thn (still_step hxg I6.bare (hb.run _ (sting s6) σ6 H6 _ (inv_sting I6) q6)) fun f s7 ⟨z7, q7, e7, k7⟩ => ?_)
    have back : ∀ {σ7 : St} {H7 : Hp}, Inv X (pins ++ pinsAt [a, L, it] s4.heap) σ7 H7 z7 → Inv X (pins ++ pinsAt [a, L, it] s4.heap) σ7 H7 s7 := fun J => by
      have := inv_un I6.bare J
      rw [← e7] at this; exact this
    have again : ∀ {σ7 : St} {H7 : Hp}, Inv X (pins ++ pinsAt [a, L, it] s4.heap) σ7 H7 s7 → W (i + 1) σ7 H7 → ∃ m, m < qs.length - i ∧ ∃ j σ' H', m = qs.length - j ∧ j ≤ qs.length ∧ Inv X pins σ' H' s7 ∧ W j σ' H' ∧ FpOk X pins H' a ∧ FpOk X pins H' L ∧ GSt X C fl a L gn o q qs pins j H' s7 := fun {σ7 H7} I7 w7 => by
      have hil : i < qs.length := (List.getElem?_eq_some_iff.mp hx).1
      have pk : ∀ b ∈ [a, L, it], H7 b = none ∧ ∀ o, s4.heap.get? b = some o → s7.heap.get? b = some o := fun b hb => by
        obtain ⟨o, e, d⟩ := gat_obj gat b hb
        obtain ⟨p1, p2, _⟩ := I7.pin (b, o) (List.mem_append_right _ (List.mem_append_right _ (mem_pinsAt hb e)))
        exact ⟨p2, fun o' e' => by rw [e] at e'; cases e'; exact p1⟩
      have fk := stat fun b hb => (pk b hb).1
      exact ⟨qs.length - (i + 1), by omega, i + 1, σ7, H7, rfl, hil, I7.unpinned, w7, fk a (by simp), fk L (by simp), .inr ⟨it, fk it (by simp), gat_on gat (k6.trans k7) fun b hb => (pk b hb).2⟩⟩
    cases f with
    | next => obtain ⟨σ7, H7, J7, n7⟩ := q7; exact again (back J7) n7
    | cont => obtain ⟨σ7, H7, J7, n7⟩ := q7; exact again (back J7) n7
    | brk => obtain ⟨σ7, H7, J7, n7⟩ := q7; exact ⟨σ7, H7, (back J7).unpinned, n7⟩
    | ret v => obtain ⟨x7, σ7, H7, J7, r7, n7⟩ := q7; exact ⟨x7, σ7, H7, (back J7).unpinned, r7, n7⟩
  · exact wpAny_execs_nil ⟨σ3, H3, I4, done σ3 H3 (hn ▸ w3)⟩
end
end Z
set_option Elab.async false
set_option linter.all false
set_option maxRecDepth 100000
set_option maxHeartbeats 1000000
/-! ### [elt for target in o.m() if ..] -/
namespace Z
open PySem PySem.Spec L2 GenW
open PyProof.Rows hiding St
section
variable {X : Cx} {C : Addr} {fl : Str} {tw : St → Hp → (Addr → Addr → List V → Hp → Prop) → Prop}
def tLcW (K : PySem.W.Frag) (tw : St → Hp → (Addr → Addr → List V → Hp → Prop) → Prop) (g : TG) (tt : TT) (te : TE) (vs : List Nat) : TE := fun σ H Q => tw σ H fun o q qs H1 => ∀ D, H1 D = none → ∃ W : Nat → Hp → Prop, W 0 (upd H1 D (.lst [])) ∧ (∀ i H, W i H → SqT K H q qs) ∧
  (∀ i x H, qs[i]? = some x → W i H → g x (wipe σ vs) H fun σ2 H2 => wipe σ2 vs = wipe σ vs ∧ tt σ2 H2 fun b H3 =>
    if b = true then te σ2 H3 fun y H4 => ∃ acc, H4 D = some (.lst acc) ∧ acc.length < sizeLine ∧ W (i + 1) (upd H4 D (.lst (acc ++ [y]))) else W (i + 1) H3) ∧ ∀ H, W qs.length H → Q (.ref D) H
theorem still_blk {Y : Cx} {α : Type} {t : Sem α} {Q : α → Shared → Prop} {s : Shared} (hx : ∀ e s, ¬ Y.xe e s) (h : wpAny (model Y.prog Y.w) Y.A t Q Y.xe (sting s)) :
    wpAny (model Y.prog Y.w) Y.A t (fun a s' => ∃ z, Q a z ∧ s' = un s.gens z ∧ Still s.gens s') Y.xe s :=
  wpAny_mono (wpAny_still h) (fun _ _ q => q) fun e s' ⟨z, hz, _⟩ => (hx _ _ hz).elim
theorem lcw_core {pins : List (Addr × Obj)} {s : Shared} {σ : St} {H : Hp} {Q : VK} {elt tg e : Expr} {ifs : List Expr} {scope : Scope} {own : List (Str × Nat)} {pos pos' : Pos} {g : TG} {tt : TT} {te : TE} {use : Option (Value → Sem Unit)} {Qf : Value → Shared → Prop}
    (cm : X.calm = true) (nd : X.N.Nodup) (I : Inv X pins σ H s) (hw : PWk X C fl e tw) (c : Cls X.K C) (nf : NoAttr X.K C fl) (hd : X.A.depth < recursionLimit) (bo : BlkOk X.N X.env.scope scope own)
    (Lg : ∀ (s : Shared) (H : Hp) (C : Addr) (cl : List (Str × Addr)) (fp : List Addr), PG (X.blk s H scope (compEnvC scope cl C X.env) fp) tg g) (Lt : ∀ (s : Shared) (H : Hp) (C : Addr) (cl : List (Str × Addr)) (fp : List Addr), PTs (X.blk s H scope (compEnvC scope cl C X.env) fp) ifs tt)
    (Le : ∀ (s : Shared) (H : Hp) (C : Addr) (cl : List (Str × Addr)) (fp : List Addr), PE (X.blk s H scope (compEnvC scope cl C X.env) fp) elt te) (fs0 : ∀ x, foldedSetIterable e X.env x = pure x)
    (h : tLcW X.K tw g tt te (own.map (·.2)) σ H Q)
    (fin : ∀ D C s' m H', Inv X pins σ H' s' → Q (.ref D) H' → s'.heap.Ns C m → FpOk X pins H' C → compPost (model X.prog X.w) X.A X.xe use Qf (.ref D) C (.ok .next) s') :
    wpAny (model X.prog X.w) X.A (comprehension (.ListComp elt [⟨tg, e, ifs, 0⟩] scope pos) scope X.env pos' (newList []) false (eval e X.env) use) Qf X.xe s := by
  have frees : ∀ y ∈ scope.names, y.2 = .free → ∃ z, X.env.cells.lookup y.1 = some z := fun y hy ee => by
    rcases bo.free y hy ee with kk | kk
    · exact I.ok.has _ (.inl kk)
    · exact I.ok.has _ (.inr kk)
  refine wpAny_comprehension_free (use := use) rfl fs0 (closure_ok frees) bo.kind (fun y hy ee => (by rw [bo.uniq y hy, ee])) (thn (hw.run pins s σ H _ I h) fun xv s2 h2 => ?_)
  obtain ⟨o, q, qs, H2, a, L, gn, rfl, I2, fa, fL, wn, ⟨dx, fs, ho, lf⟩, hq, hl, hW⟩ := h2
  refine wpAny_pyIter_gen wn.gen ?_
  have hh : X.A.handled = none := I.ok.hd cm
  refine wpAny_newObj_type (newEnv_comp ?_) (show 0 ≤ sizeLine by decide)
  generalize eD : s2.heap.objs.size = D
  have nD : H2 D = none := I2.hok.fresh (Nat.le_of_eq eD)
  obtain ⟨W, w0, wq, step, done⟩ := hW D nD
  generalize e3 : ({ s2 with heap := s2.heap.push { cls := .type "list", data := .seq ([] : List Value).toArray } } : Shared) = s3
  have h3 : s3.heap = s2.heap.push { cls := .type "list", data := .seq ([] : List Value).toArray } := by rw [← e3]
  have g3 : s3.gens = s2.gens := by rw [← e3]
  have I3 : Inv X pins σ (upd H2 D (.lst [])) s3 := by
    rw [← e3]
    refine I2.laid (t' := s2.toks) (fun b ob ee => Heap.get?_push_of_some _ ee) (Nat.le_of_eq eD) ⟨Nat.zero_le _, [], 0, .nil, ?_⟩
    rw [← eD]
    exact Heap.get?_push_size _ rfl
  obtain ⟨og, nm, qn, eg, cg, dg, sg⟩ := id wn.gen
  obtain ⟨mL, hns, hself⟩ := id wn.ns
  have la : a < s2.heap.objs.size := Heap.lt_size eg
  have lL : L < s2.heap.objs.size := hns.lt
  have sm : ∀ b ∈ [a, L], FpOk X pins H2 b ∧ b < s2.heap.objs.size := fun b hb => by
    rcases List.mem_cons.mp hb with rfl | hb
    · exact ⟨fa, la⟩
    · rw [List.mem_singleton.mp hb]; exact ⟨fL, lL⟩
  have f3 : ∀ b ∈ [a, L], FpOk X pins (upd H2 D (.lst [])) b ∧ b < s3.heap.objs.size := fun b hb => by
    obtain ⟨u1, u2⟩ := sm b hb
    refine ⟨⟨?_, u1.2⟩, by rw [h3, Heap.size_push]; exact Nat.lt_succ_of_lt u2⟩
    rw [upd_ne (by rw [← eD]; exact Nat.ne_of_lt u2)]
    exact u1.1
  have ho3 : upd H2 D (.lst []) o = some (.ins C dx fs) := by rw [upd_ne (ne_of_none ho nD)]; exact ho
  have I4 := block_start I3 bo nd f3
  have pg := Lg s3 (upd H2 D (.lst [])) s3.heap.objs.size (cellsFrom (s3.heap.objs.size + 1) scope.names (cloFrom X.env.cells scope.names [])) [a, L]
  have pt := Lt s3 (upd H2 D (.lst [])) s3.heap.objs.size (cellsFrom (s3.heap.objs.size + 1) scope.names (cloFrom X.env.cells scope.names [])) [a, L]
  have pe := Le s3 (upd H2 D (.lst [])) s3.heap.objs.size (cellsFrom (s3.heap.objs.size + 1) scope.names (cloFrom X.env.cells scope.names [])) [a, L]
  show codeAny _ _ (.compStart (.ListComp elt [⟨tg, e, ifs, 0⟩] scope pos) 0 (.ref a) (.ref D) (compEnvC scope (cellsFrom (s3.heap.objs.size + 1) scope.names (cloFrom X.env.cells scope.names [])) s3.heap.objs.size X.env)) (compPost (model X.prog X.w) X.A X.xe use Qf (.ref D) s3.heap.objs.size) { s3 with heap := pushCells (s3.heap.push { cls := .type "dict", data := .dict #[] }) scope.names }
  have n3 : ∀ b ∈ [a, L], upd H2 D (.lst []) b = none := fun b hb => (f3 b hb).1.1
  generalize ece : compEnvC scope (cellsFrom (s3.heap.objs.size + 1) scope.names (cloFrom X.env.cells scope.names [])) s3.heap.objs.size X.env = ce at I4 pg pt pe ⊢
  have cL : ce.locals = s3.heap.objs.size := by subst ece; rfl
  generalize eH3 : upd H2 D (.lst []) = H3 at I3 I4 pg pt pe w0 n3 f3 ho3
  generalize e4 : ({ s3 with heap := pushCells (s3.heap.push { cls := .type "dict", data := .dict #[] }) scope.names } : Shared) = s4 at I4 ⊢
  have keep4 : ∀ b ob, s2.heap.get? b = some ob → s4.heap.get? b = some ob := fun b ob ee => by
    rw [← e4]
    refine pushCells_keeps _ _ _ _ (Heap.get?_push_of_some _ ?_)
    rw [h3]
    exact Heap.get?_push_of_some _ ee
  have g4 : s4.gens = s2.gens := by rw [← e4]; exact g3
  have wn4 : WNew X.prog X.w fl o a L gn s4 := by
    obtain ⟨env, p1, p2, p3, p4, p5, p6, p7, z1, z⟩ := wn.gs
    exact ⟨⟨og, nm, qn, keep4 a og eg, cg, dg, sg⟩, ⟨env, p1, p2, p3, p4, p5, p6, p7, by rw [g4]; exact z1, z⟩, ⟨mL, hns.at' fun ob ee => keep4 L ob ee, hself⟩⟩
  have hh4 : (X.blk s3 H3 scope ce [a, L]).A.handled = none := hh
  have bx : ∀ ee z, ¬ (X.blk s3 H3 scope ce [a, L]).xe ee z := fun _ _ z => z
  have stat : ∀ {σ' : St} {H' : Hp} {s' : Shared}, Inv (X.blk s3 H3 scope ce [a, L]) [] σ' H' s' → (∀ b ∈ [a, L], H' b = none) → ∀ b ∈ [a, L], FpOk (X.blk s3 H3 scope ce [a, L]) [] H' b := fun {σ' H' s'} I' hn b hb =>
    ⟨hn b hb, (I'.ok.exf b hb).1, I'.ok.exfs b hb, .inl hb, fun y z ee => (I'.ok.exf b hb).2 y z ee, fun p hp => absurd (show p ∈ ([] : List (Addr × Obj)) ++ [] from hp) (by simp)⟩
  have loop : codeAny (model X.prog X.w) X.A (.compLoop (.ListComp elt [⟨tg, e, ifs, 0⟩] scope pos) 0 (.ref a) (.ref D) ce) (compPost (model X.prog X.w) X.A X.xe use Qf (.ref D) s3.heap.objs.size) s4 := by
    refine compLoop_any (fun n s' => ∃ i H', n = qs.length - i ∧ i ≤ qs.length ∧ Inv (X.blk s3 H3 scope ce [a, L]) [] (wipe σ (own.map (·.2))) H' s' ∧ W i H' ∧ (∀ b ∈ [a, L], H' b = none) ∧ GSt (X.blk s3 H3 scope ce [a, L]) C fl a L gn o q qs [] i H' s') ?_ qs.length
      ⟨0, H3, rfl, Nat.zero_le _, I4, w0, n3, .inl ⟨rfl, ⟨dx, fs, ho3, lf⟩, wn4⟩⟩
    rintro n s5 ⟨i, H5, rfl, hi, I5, w5, n5, st5⟩
    refine gst_next (X := X.blk s3 H3 scope ce [a, L]) hh4 hd c nf I5 (stat I5 n5 L (by simp)) hi (wq i H5 w5) st5 (fun v x it s6 hx rv fit I6 gat => ?_) fun s6 hn I6 => ?_
    · have hil : i < qs.length := (List.getElem?_eq_some_iff.mp hx).1
      obtain ⟨oh, nh, qh, eh, ch, dh, sh⟩ := id gat.gen
      refine go_of eh ch dh (by decide) ?_
      have fk : ∀ b ∈ [a, L, it], FpOk (X.blk s3 H3 scope ce [a, L]) [] H5 b := fun b hb => by
        rcases List.mem_cons.mp hb with rfl | hb
        · exact stat I5 n5 _ (by simp)
        · rcases List.mem_cons.mp hb with rfl | hb
          · exact stat I5 n5 _ (by simp)
          · rw [List.mem_singleton.mp hb]; exact fit
      have I6' := I6.pinned fk (gat_obj gat)
      refine thnF (still_blk bx (pg.run _ (sting s6) _ H5 x v _ (inv_sting I6') rv (step i x H5 hx w5))) fun _ s8 ⟨z8, ⟨σ8, H8, J8, hw8, q8⟩, x8, k8⟩ => ?_
      have I8 := inv_un I6.bare J8
      rw [← x8] at I8
      refine thnF (still_blk bx (pt.run _ (sting s8) σ8 H8 _ (inv_sting I8) q8)) fun b s9 ⟨z9, ⟨H9, J9, q9⟩, x9, k9⟩ => ?_
      have I9 := inv_un I8.bare J9
      rw [← x9] at I9
      have on : ∀ {s' : Shared} {H' : Hp}, Inv (X.blk s3 H3 scope ce [a, L]) ([] ++ pinsAt [a, L, it] s6.heap) σ8 H' s' → Still s6.gens s' → W (i + 1) H' → ∃ m, m < qs.length - i ∧ ∃ j H', m = qs.length - j ∧ j ≤ qs.length ∧ Inv (X.blk s3 H3 scope ce [a, L]) [] (wipe σ (own.map (·.2))) H' s' ∧ W j H' ∧ (∀ b ∈ [a, L], H' b = none) ∧ GSt (X.blk s3 H3 scope ce [a, L]) C fl a L gn o q qs [] j H' s' := fun {s' H'} I' kk nx => by
        have pk : ∀ b ∈ [a, L, it], H' b = none ∧ ∀ ob, s6.heap.get? b = some ob → s'.heap.get? b = some ob := fun b hb => by
          obtain ⟨ob, ee, d⟩ := gat_obj gat b hb
          obtain ⟨r1, r2, _⟩ := I'.pin (b, ob) (List.mem_append_right _ (List.mem_append_right _ (mem_pinsAt hb ee)))
          exact ⟨r2, fun o' e' => by rw [ee] at e'; cases e'; exact r1⟩
        have ln : (wipe σ (own.map (·.2))).length = σ8.length := by rw [← hw8, wipe_length]
        refine ⟨qs.length - (i + 1), by omega, i + 1, H', rfl, hil, (I'.unpinned (pins := [])).weak ln (fun j v ee => ?_), nx, fun b hb => ?_, .inr ⟨it, ⟨(pk it (by simp)).1, fit.2⟩, gat_on gat kk fun b hb => (pk b hb).2⟩⟩
        · rw [← hw8] at ee
          exact (wipe_some ee).1
        · rcases List.mem_cons.mp hb with rfl | hb
          · exact (pk _ (by simp)).1
          · rw [List.mem_singleton.mp hb]; exact (pk L (by simp)).1
      cases b with
      | false =>
        rw [if_neg Bool.false_ne_true] at q9 ⊢
        exact on I9 (k8.trans k9) q9
      | true =>
        rw [if_pos rfl] at q9 ⊢
        refine thnF (still_blk bx (pe.run _ (sting s9) σ8 H9 _ (inv_sting I9) q9)) fun z s10 ⟨z10, ⟨yv, H10, J10, r10, acc, hD10, hz10, nx⟩, x10, k10⟩ => ?_
        have I10 := inv_un I9.bare J10
        rw [← x10] at I10
        refine thnF (still_blk bx (app_ok (X := X.blk s3 H3 scope ce [a, L]) (Q := fun _ s' => Inv (X.blk s3 H3 scope ce [a, L]) ([] ++ pinsAt [a, L, it] s6.heap) σ8 (upd H10 D (.lst (acc ++ [yv]))) s') (inv_sting I10) hD10 hz10 r10 fun s' I' => I')) fun _ s11 ⟨z11, J11, x11, k11⟩ => ?_
        have I11 := inv_un I10.bare J11
        rw [← x11] at I11
        exact on I11 (((k8.trans k9).trans k10).trans k11) nx
    · have I7 : Inv X pins σ H5 s6 := I3.call' (ch := [a, L]) I6.os I6.base I6.hok I6.bare fun b hb => ⟨(f3 b hb).1.2.2.2.1, (f3 b hb).1.2.1, (f3 b hb).1.2.2.2.2.1, (f3 b hb).1.2.2.2.2.2⟩
      have nC : H5 s3.heap.objs.size = none := by
        have z : H5 ce.locals = none := I6.free
        rw [cL] at z
        exact z
      obtain ⟨m, hm, _⟩ := I6.loc
      have hm : s6.heap.Ns ce.locals m := hm
      rw [cL] at hm
      exact fin D s3.heap.objs.size s6 m H5 I7 (done H5 (hn ▸ w5)) hm (I3.fpOk (Nat.le_refl _) nC)
  exact codeAny_compStart_list loop (wpAny_pyIter_gen wn4.gen loop)
end
end Z
set_option Elab.async false
set_option linter.all false
set_option maxRecDepth 100000
set_option maxHeartbeats 1000000
/-! ### the same over plain values -/
namespace Z
open PySem PySem.Spec L2 GenW
open PyProof.Rows hiding St
section
variable {X : Cx} {C : Addr} {fl : Str} {tw : St → Hp → (Addr → Addr → List V → Hp → Prop) → Prop}
theorem pe_lcW {elt tg e : Expr} {ifs : List Expr} {scope : Scope} {own : List (Str × Nat)} {pos : Pos} {g : TG} {tt : TT} {te : TE} (cm : X.calm = true) (nd : X.N.Nodup) (hw : PWk X C fl e tw) (c : Cls X.K C) (nf : NoAttr X.K C fl) (hd : X.A.depth < recursionLimit) (bo : BlkOk X.N X.env.scope scope own)
    (Lg : ∀ (s : Shared) (H : Hp) (C : Addr) (cl : List (Str × Addr)) (fp : List Addr), PG (X.blk s H scope (compEnvC scope cl C X.env) fp) tg g) (Lt : ∀ (s : Shared) (H : Hp) (C : Addr) (cl : List (Str × Addr)) (fp : List Addr), PTs (X.blk s H scope (compEnvC scope cl C X.env) fp) ifs tt)
    (Le : ∀ (s : Shared) (H : Hp) (C : Addr) (cl : List (Str × Addr)) (fp : List Addr), PE (X.blk s H scope (compEnvC scope cl C X.env) fp) elt te) (fs0 : ∀ x, foldedSetIterable e X.env x = pure x := by intro _; rfl) :
    PE X (.ListComp elt [⟨tg, e, ifs, 0⟩] scope pos) (tLcW X.K tw g tt te (own.map (·.2))) := by
  refine ⟨fun pins s σ H Q I h => ?_⟩
  rw [eval_ListComp]
  refine lcw_core cm nd I hw c nf hd bo Lg Lt Le fs0 h fun D B s' m H' I' q hn ⟨f0, f1, f2, f3, f4, f5⟩ => ⟨m, hn, fun h'' sb => ?_⟩
  exact ⟨.ref D, H', I'.turned (t' := s'.toks) (fun b ob hb ee => (sb.2 b hb).trans ee) f0 f1 f3 f4 f5, rfl, q⟩
theorem ps_setLcW {i : Nat} {y : Str} {py : Pos} {elt tg e : Expr} {ifs : List Expr} {scope : Scope} {own : List (Str × Nat)} {pos spos : Pos} {g : TG} {tt : TT} {te : TE} (cm : X.calm = true) (nd : X.N.Nodup) (hy : X.N[i]? = some y) (hyl : X.env.scope.names.lookup y = some .local)
    (sw : swapsWith (.ListComp elt [⟨tg, e, ifs, 0⟩] scope pos) (some (.Name y py)) spos.line X.env = pure true) (hw : PWk X C fl e tw) (c : Cls X.K C) (nf : NoAttr X.K C fl) (hd : X.A.depth < recursionLimit) (bo : BlkOk X.N X.env.scope scope own)
    (Lg : ∀ (s : Shared) (H : Hp) (C : Addr) (cl : List (Str × Addr)) (fp : List Addr), PG (X.blk s H scope (compEnvC scope cl C X.env) fp) tg g) (Lt : ∀ (s : Shared) (H : Hp) (C : Addr) (cl : List (Str × Addr)) (fp : List Addr), PTs (X.blk s H scope (compEnvC scope cl C X.env) fp) ifs tt)
    (Le : ∀ (s : Shared) (H : Hp) (C : Addr) (cl : List (Str × Addr)) (fp : List Addr), PE (X.blk s H scope (compEnvC scope cl C X.env) fp) elt te) (fs0 : ∀ x, foldedSetIterable e X.env x = pure x := by intro _; rfl) :
    PS X (.Assign [.Name y py] (.ListComp elt [⟨tg, e, ifs, 0⟩] scope pos) spos) (tAsg (tLcW X.K tw g tt te (own.map (·.2))) (gName i)) := by
  refine ⟨fun pins s σ H D I h => ?_⟩
  rw [exec_Assign_Name_used _ _ _ _ sw]
  refine wpAny_bind (wpAny_standAt (wpAny_bind ?_))
  show wpAny _ X.A (do let _ ← comprehension (.ListComp elt [⟨tg, e, ifs, 0⟩] scope pos) scope X.env (firstIterPos [⟨tg, e, ifs, 0⟩] pos) (newList []) false (eval e X.env) (some (assign (.Name y py) X.env))) _ _ s
  have h : tLcW X.K tw g tt te (own.map (·.2)) σ H (fun x H1 => gName i x σ H1 D.nx) := h
  refine wpAny_bind (thn (lcw_core (Qf := fun _ s' => SP X pins D .next s') cm nd I hw c nf hd bo Lg Lt Le fs0 h fun B B2 s' m H' I' q hn f => ?_) fun _ s' hq => wpAny_pure (wpAny_pure hq))
  show wpAny _ _ (assign (.Name y py) X.env (.ref B)) _ _ _
  refine wpAny_assign_Name (store_ok2 (v := V.ref B) I' nd hy (.inl hyl) rfl (fun s2 I2 ⟨b, sb, hb⟩ => ?_) (.inr hyl))
  obtain ⟨f0, f1, f2, f3, f4, f5⟩ := f
  have ne : B2 ≠ b := by
    rcases hb with z | z
    · rw [z]; exact f1
    · exact fun ee => f4 y b z ee.symm
  refine ⟨m, hn.sameBut sb ne, fun h3 sb3 => ?_⟩
  exact ⟨_, H', I2.turned (t' := s2.toks) (fun b ob hb ee => (sb3.2 b hb).trans ee) f0 f1 f3 f4 f5, q⟩
end
section
variable {X : Cx} {T : List (Addr × Str)} {C : Addr} {m fl : Str} {ta : TEp} {pos : Pos}
theorem xg_never (h : ∀ e s, ¬ X.xe e s) : XG X := fun _ _ _ _ z => (h _ _ z).elim
/-- the items of the tuple in a field, walked by a generator method -/
def iWalkP (C : Addr) (m fl : Str) (ta : TEp) : TIp := fun η P => ta η fun x η1 => ∃ fs qs, x = .ins C fs ∧ fs.lookup m = none ∧ fs.lookup fl = some (.tup qs) ∧ qs.length < 1000 ∧ P qs η1
theorem z_forW {tg e : Expr} {body : List Stmt} {g : TGp} {tb : TSp} (hxg : XG X) (hp : PassesOwn (model X.prog X.w) X.A X.env X.xe) (cm : X.calm = true) (hw : PWk X C fl e (tWk X.K C m fl (up X.K T ta))) (c : Cls X.K C) (nf : NoAttr X.K C fl) (hg : PG X tg (upG X.K T g)) (hb : PSs X body (upS X.K T tb)) (hd : X.A.depth < recursionLimit)
    (hs : ∀ x, foldedSetIterable e X.env x = pure x := by intro _; rfl) : PS X (.For tg e body [] pos) (upS X.K T (tForP (iWalkP C m fl ta) g tb)) := by
  refine PS.weak (ps_forW hxg hp cm hw c nf hg hb hd hs) fun D σ H q => ?_
  obtain ⟨F, η, D', R, h, k1, k2, k3, k4⟩ := q
  refine ⟨F, η, _, R, h, fun x η1 v H1 h1 e1 R1 r1 => ?_⟩
  obtain ⟨fs, qs, rfl, l1, l2, hl, Inv, i0, step, fin⟩ := h1
  obtain ⟨a, dx, ws, rfl, na, q', rr⟩ := r1.ins_
  obtain ⟨w, hw, rw'⟩ := (rr.look fl).1 _ l2
  obtain ⟨b, vs, rfl, hq, rv⟩ := rw'.tup_
  refine ⟨a, dx, ws, b, vs, rfl, q', (rr.look m).2 l1, hw, hq.sq, by rw [rv.len]; exact hl, fun i σ2 H2 => ∃ η2, Inv i η2 ∧ Rs X.K T F σ2 η2 H2 ∧ Ext σ η1 σ2 η2 H1 H2, ⟨η1, i0, R1, .refl⟩, fun i σ2 H2 ⟨η2, _, R2, e2⟩ => (hq.car (e2.car (F := F))).sq, fun i v σ2 H2 hv ⟨η2, p, R2, e2⟩ => ?_, fun σ2 H2 ⟨η2, p, R2, e2⟩ => ?_⟩
  · obtain ⟨y, hy, ry⟩ := rv.get' hv
    refine ⟨F, η2, y, _, R2, ry.car e2.car, step i y η2 hy p, fun η4 σ4 H4 h4 e4 R4 => ?_⟩
    have E := e2.trans e4
    exact ⟨F, η4, _, R4, h4, fun η5 σ5 H5 h5 e5 R5 => ⟨η5, h5, R5, E.trans e5⟩, fun η5 σ5 H5 h5 e5 R5 => k1 _ _ _ h5 ((e1.trans E).trans e5) R5, fun η5 σ5 H5 h5 e5 R5 => ⟨η5, h5, R5, E.trans e5⟩, fun x η5 σ5 v H5 h5 e5 R5 r5 => k4 _ _ _ _ _ h5 ((e1.trans E).trans e5) R5 r5⟩
  · rw [rv.len] at p
    exact k1 _ _ _ (fin η2 p) (e1.trans e2) R2
theorem lcW_weak {K : PySem.W.Frag} {g : TGp} {tt : TTp} {te : TEp} {vs : List Nat} {σ : St} {H : Hp} {Q : VK} (q : upF K T (tLcP (iWalkP C m fl ta) g tt te vs) σ H Q) : tLcW K (tWk K C m fl (up K T ta)) (upGw K T vs g) (upB K T tt) (up K T te) vs σ H Q := by
  obtain ⟨F, η, P, R, h, k⟩ := q
  refine ⟨F, η, _, R, h, fun x η1 v H1 h1 e1 R1 r1 => ?_⟩
  obtain ⟨fs, qs, rfl, l1, l2, hl, Inv, i0, step, fin⟩ := h1
  obtain ⟨a, dx, ws, rfl, na, q', rr⟩ := r1.ins_
  obtain ⟨w, hw, rw'⟩ := (rr.look fl).1 _ l2
  obtain ⟨b, xs, rfl, hq, rv⟩ := rw'.tup_
  refine ⟨a, dx, ws, b, xs, rfl, q', (rr.look m).2 l1, hw, hq.sq, by rw [rv.len]; exact hl, fun D hD => ?_⟩
  have hn : Nw H D := e1.nw (Nw.of hD)
  have nF : ¬ F D := fun z => R.tr D z hn
  have agw : ∀ j, j ∉ vs → (L2.wipe σ vs)[j]? = σ[j]? := fun j hj => wipe_out hj
  have carX : ∀ {σ2 : St} {η2 : EP'} {H2 : Hp}, Ext σ η1 σ2 η2 H1 H2 → Car (Oof F σ η1) (Oof (With F D) σ2 η2) H1 H2 := fun {σ2 η2 H2} eb b o n hb t => by
    refine ⟨((eb.car (F := F)) b o n hb t).1, fun z => ?_⟩
    rcases z with (z | z) | z
    · exact n (.inl z)
    · rw [z, hD] at hb; cases hb
    · exact ((eb.car (F := F)) b o n hb t).2 (.inr z)
  refine ⟨fun i H2 => ∃ acc us η2, Inv i acc η2 ∧ Rs K T (With F D) σ η2 H2 ∧ Ext σ η1 σ η2 H1 H2 ∧ H2 D = some (.lst us) ∧ Reps K (Oof (With F D) σ η2) H2 acc us, ⟨[], [], wipeP η1 vs, i0, (R1.add (o := .lst []) hD nofun).wipe rfl (fun _ _ => rfl), (Ext.same (Same.new hD)).trans (.wipe fun _ _ => rfl), upd_same, .nil⟩,
    fun i H2 ⟨acc, us, η2, _, R2, e2, _⟩ => (hq.car (carX e2)).sq, fun i v H2 hv ⟨acc, us, η2, p, R2, e2, hd, ru⟩ => ?_, fun H2 ⟨acc, us, η2, p, R2, e2, hd, ru⟩ => ?_⟩
  · obtain ⟨y, hy, ry⟩ := rv.get' hv
    have Rb : Rs K T (With F D) (L2.wipe σ vs) (wipeP η2 vs) H2 := R2.wipe (wipe_length _ _) agw
    have eb : Ext σ η1 (L2.wipe σ vs) (wipeP η2 vs) H1 H2 := e2.trans (.wipe agw)
    refine ⟨With F D, wipeP η2 vs, _, _, Rb, ry.car (carX eb), step i _ acc η2 hy p, fun η4 σ4 H4 h4 w4 e4 R4 => ⟨by rw [w4]; exact wipe_set_all, With F D, η4, _, R4, h4, fun c η5 H5 h5 e5 R5 => ?_⟩⟩
    have E5 : Ext σ η1 σ4 η5 H1 H5 := (eb.trans e4).trans e5
    have ag4 : ∀ j, j ∉ vs → σ[j]? = σ4[j]? := fun j hj => ((wipe_agree (w4.trans wipe_set_all)).2 j hj).symm
    have ln4 : σ.length = σ4.length := ((wipe_agree (w4.trans wipe_set_all)).1).symm
    have own : ∀ {η6 : EP'} {H6 : Hp}, Ext (L2.wipe σ vs) (wipeP η2 vs) σ4 η6 H2 H6 → H6 D = some (.lst us) := fun ex => ex.keep D _ hd (fun z => by
        obtain ⟨j, p, z1, z2⟩ := z
        obtain ⟨a, q1, q2, q3⟩ := Rb.ow j p z2
        rw [z1] at q1; cases q1
        exact q3 (.inr rfl)) nofun
    cases c with
    | true =>
      simp only [if_true] at h5 ⊢
      refine ⟨With F D, η5, _, R5, h5, fun y η6 w H6 h6 e6 R6 r6 => ?_⟩
      have E6 := E5.trans e6
      have e36 : Ext (L2.wipe σ vs) (wipeP η2 vs) σ4 η6 H2 H6 := (e4.trans e5).trans e6
      have dk := own e36
      have ru6 : Reps K (Oof (With F D) σ4 η6) H6 acc us := (ru.car ((Ext.wipe agw).car (F := With F D))).car (e36.car (F := With F D))
      refine ⟨us, dk, by rw [ru.len]; exact h6.1, acc ++ [y], us ++ [w], wipeP η6 vs, h6.2, (R6.updF (.inr rfl) dk).wipe ln4 ag4, ?_, upd_same, ?_⟩
      · refine Ext.trans ⟨fun b o hb nb t => ?_, fun b hb => ?_, E6.new, E6.fst⟩ (Ext.wipe ag4)
        · rw [upd_ne (fun z => by rw [z, hD] at hb; cases hb)]; exact E6.keep b o hb nb t
        · exact live_upd nofun (E6.live b hb)
      · have c7 : Car (Oof (With F D) σ4 η6) (Oof (With F D) σ4 η6) H6 (upd H6 D (.lst (us ++ [w]))) := fun b o n hb _ => ⟨by rw [upd_ne (fun z => n (.inl (.inr z)))]; exact hb, n⟩
        exact ((ru6.app (.cons r6 .nil)).car c7).car ((Ext.wipe (H := upd H6 D (.lst (us ++ [w]))) ag4).car (F := With F D))
    | false =>
      simp only [Bool.false_eq_true, if_false] at h5 ⊢
      have e35 : Ext (L2.wipe σ vs) (wipeP η2 vs) σ4 η5 H2 H5 := e4.trans e5
      exact ⟨acc, us, wipeP η5 vs, h5, R5.wipe ln4 ag4, E5.trans (.wipe ag4), own e35, ((ru.car ((Ext.wipe agw).car (F := With F D))).car (e35.car (F := With F D))).car ((Ext.wipe ag4).car (F := With F D))⟩
  · rw [rv.len] at p
    exact k acc η2 D us H2 (fin acc η2 p) (e1.trans e2) R2 hn nF hd ru
theorem zf_lcW {elt tg e : Expr} {ifs : List Expr} {scope : Scope} {own : List (Str × Nat)} {g : TGp} {tt : TTp} {te : TEp}
    (pf : PE X (.ListComp elt [⟨tg, e, ifs, 0⟩] scope pos) (tLcW X.K (tWk X.K C m fl (up X.K T ta)) (upGw X.K T (own.map (·.2)) g) (upB X.K T tt) (up X.K T te) (own.map (·.2)))) : PE X (.ListComp elt [⟨tg, e, ifs, 0⟩] scope pos) (upF X.K T (tLcP (iWalkP C m fl ta) g tt te (own.map (·.2)))) :=
  PE.weak pf fun σ H Q q => lcW_weak q
theorem z_setLcW {y : Str} {py : Pos} {elt tg e : Expr} {ifs : List Expr} {scope : Scope} {own : List (Str × Nat)} {spos : Pos} {i : Nat} {g : TGp} {tt : TTp} {te : TEp}
    (pf : PS X (.Assign [.Name y py] (.ListComp elt [⟨tg, e, ifs, 0⟩] scope pos) spos) (tAsg (tLcW X.K (tWk X.K C m fl (up X.K T ta)) (upGw X.K T (own.map (·.2)) g) (upB X.K T tt) (up X.K T te) (own.map (·.2))) (gName i))) :
    PS X (.Assign [.Name y py] (.ListComp elt [⟨tg, e, ifs, 0⟩] scope pos) spos) (upS X.K T (tSetP i (tValP (tLcP (iWalkP C m fl ta) g tt te (own.map (·.2)))))) := by
  refine PS.weak pf fun D σ H q => lcW_weak (val_weak ?_)
  obtain ⟨F, η, D', R, h, k1, k2, k3, k4⟩ := q
  exact ⟨F, η, _, R, h, fun x η1 v H1 h1 e1 R1 r => k1 _ _ _ h1 (e1.trans .setv) (R1.setv r)⟩
end
end Z
set_option Elab.async false
set_option linter.all false
set_option maxRecDepth 100000
namespace Z
open PySem PySem.Spec L2
open PyProof.Rows hiding St
section
variable {X : Cx}
theorem ints_rep {K : PySem.W.Frag} {O : Addr → Prop} {H : Hp} : ∀ {xs : List PV} {vs : List V} {ns : List Int}, Reps K O H xs vs → intsOf xs = some ns → vs = ns.map V.int
  | [], _, _, r, e => by cases e; exact r.inv0
  | x :: xs, _, _, r, e => by
    obtain ⟨v, vs, rfl, r1, r2⟩ := r.inv
    cases x with
    | int i =>
      rw [intsOf] at e
      obtain ⟨ms, e1, rfl⟩ := Option.map_eq_some_iff.mp e
      rw [r1.int_, ints_rep r2 e1]
      rfl
    | _ => cases e
/-- max(l) of ints -/
def rMaxL : R1p := fun ps P => match ps with
  | [.lst ys] => ∃ ns, intsOf ys = some ns ∧ 0 < ns.length ∧ ∀ m, m ∈ ns → (∀ x, x ∈ ns → x ≤ m) → P (.int m)
  | _ => False
theorem zc_maxL (hc : X.calm = true) : CallR X (.builtin "max") (r1 X.K rMaxL) := by
  refine CallR.weak (cr_max hc) fun xs H Q h => ?_
  obtain ⟨O, ps, P, tr, hx, h, k⟩ := h
  unfold rMaxL at h
  split at h
  · obtain ⟨ns, e, h0, h⟩ := h
    obtain ⟨v, rfl, r⟩ := hx.one
    obtain ⟨a, vs, rfl, n, q, rr⟩ := r.lst_
    have := ints_rep rr e
    subst this
    exact ⟨a, ns, rfl, SqL.of q, h0, fun m h1 h2 => k _ _ _ (h m h1 h2) (Same.refl _) (by unfold Rep; rfl)⟩
  · cases h
theorem q_maxL {ns : List Int} {m : Int} {P : PV → Prop} (h1 : m ∈ ns) (h2 : ∀ x, x ∈ ns → x ≤ m) (h : P (.int m)) : rMaxL [.lst (ns.map .int)] P :=
  ⟨ns, intsOf_map ns, List.length_pos_of_mem h1, fun k k1 k2 => by
    have := h2 k k1; have := k2 m h1
    have e : k = m := by omega
    rw [e]; exact h⟩
end
end Z
set_option Elab.async false
set_option linter.all false
set_option maxRecDepth 100000
namespace Z
open PySem PySem.Spec L2
open PyProof.Rows hiding St
/-! ### x += e, x -= e, x *= e of ints -/
section
variable {X : Cx} {T : List (Addr × Str)} {e : Expr} {te : TEp} {pos : Pos}
def augI : Operator → Int → Int → Option Int
  | .Add, i, j => some (i + j)
  | .Sub, i, j => some (i - j)
  | .Mult, i, j => some (i * j)
  | _, _, _ => none
def rAugI (op : Operator) : V → V → Hp → VK → Prop := fun x y H Q => ∃ i j k, x = .int i ∧ y = .int j ∧ augI op i j = some k ∧ CMul i j ∧ Q (.int k) H
theorem ip_augI {op : Operator} : PIp X op (rAugI op) := by
  rintro pins s σ H x y v u Q I rx ry ⟨i, j, k, rfl, rfl, ek, cm, q⟩
  obtain ⟨t, rfl⟩ := (show ∃ t, v = Value.int i t from rx)
  obtain ⟨t', rfl⟩ := (show ∃ t', u = Value.int j t' from ry)
  cases op <;> (try cases ek)
  · exact iadd_int ⟨.int (i + j), H, I.tok _, ⟨_, rfl⟩, q⟩
  · exact isub_int ⟨.int (i - j), H, I.tok _, ⟨_, rfl⟩, q⟩
  · exact imul_int ⟨.int (i * j), H, I.tok _, ⟨_, rfl⟩, q⟩ cm.ok
def tAugP (op : Operator) (s : Nat) (te : TEp) : TSp := fun D η => match η[s]? with
  | some (.va (.int i)) => te η fun y η1 => match y with
    | .int j => ∃ k, augI op i j = some k ∧ CMul i j ∧ D.nx (η1.set s (.va (.int k)))
    | _ => False
  | _ => False
theorem z_aug {op : Operator} {i : Nat} {x : Str} {pos' : Pos} (hN : X.N.Nodup) (hi : X.N[i]? = some x) (hx : Loc X.env.scope x) (he : PE X e (up X.K T te))
    (pf : PS X (.AugAssign (.Name x pos') op e pos) (tAug i (up X.K T te) (rAugI op))) : PS X (.AugAssign (.Name x pos') op e pos) (upS X.K T (tAugP op i te)) := by
  refine PS.weak pf fun D σ H q => ?_
  obtain ⟨F, η, D', R, h, k1, k2, k3, k4⟩ := q
  unfold tAugP at h
  split at h
  · rename_i n en
    obtain ⟨v, hv, rv⟩ := R.va i _ en
    have ev := rv.int_
    subst ev
    refine ⟨_, hv, F, η, _, R, h, fun y η1 w H1 h1 e1 R1 r1 => ?_⟩
    split at h1
    · rename_i j
      have ew := r1.int_
      subst ew
      obtain ⟨k, ek, cm, h1⟩ := h1
      exact ⟨n, j, k, rfl, rfl, ek, cm, k1 _ _ _ h1 (e1.trans .setv) (R1.setv (by unfold Rep; rfl))⟩
    · cases h1
  · cases h
end
/-! ### a comprehension over an own list -/
section
variable {X : Cx} {T : List (Addr × Str)} {pos : Pos}
/-- the items of the own list in slot i, which stays as it is -/
def tLcOP (i : Nat) (g : TGp) (tt : TTp) (te : TEp) (vs : List Nat) : TFp := fun η P => ∃ xs, η[i]? = some (.ow (.l xs)) ∧ i ∉ vs ∧ ∃ Inv : Nat → List PV → EP' → Prop, Inv 0 [] (wipeP η vs) ∧ (∀ k acc η2, Inv k acc η2 → η2[i]? = some (.ow (.l xs))) ∧
  (∀ k x acc η2, xs[k]? = some x → Inv k acc η2 → g x (wipeP η2 vs) fun η3 => tt η3 fun b η4 => if b = true then te η4 fun y η5 => acc.length < sizeLine ∧ Inv (k + 1) (acc ++ [y]) (wipeP η5 vs) else Inv (k + 1) acc (wipeP η4 vs)) ∧
  (∀ acc η2, Inv xs.length acc η2 → P acc η2)
theorem lcO_weak {K : PySem.W.Frag} {i : Nat} {g : TGp} {tt : TTp} {te : TEp} {vs : List Nat} {σ : St} {H : Hp} {Q : VK} (q : upF K T (tLcOP i g tt te vs) σ H Q) : tLc (iList K (tVar i)) (upGw K T vs g) (upB K T tt) (up K T te) vs σ H Q := by
  obtain ⟨F, η, P, R, h, k⟩ := q
  obtain ⟨xs, ei, hiv, Inv, i0, keep, step, fin⟩ := h
  obtain ⟨a, ha, ⟨vs0, h0, r0⟩, nf⟩ := R.ow i _ ei
  refine ⟨_, ha, a, rfl, ⟨vs0, SqL.of h0⟩, fun D hD => ?_⟩
  have hn : Nw H D := Nw.of hD
  have nF : ¬ F D := fun z => R.tr D z hn
  have agw : ∀ j, j ∉ vs → (L2.wipe σ vs)[j]? = σ[j]? := fun j hj => wipe_out hj
  -- the list, wherever Inv holds
  have at_ : ∀ {k : Nat} {acc : List PV} {η2 : EP'} {H2 : Hp}, Inv k acc η2 → Rs K T (With F D) σ η2 H2 → ∃ us, H2 a = some (.lst us) ∧ Reps K (Oof (With F D) σ η2) H2 xs us := fun {k acc η2 H2} p R2 => by
    obtain ⟨b, hb, ⟨us, q1, q2⟩, _⟩ := R2.ow i _ (keep k acc η2 p)
    rw [ha] at hb; cases hb
    exact ⟨us, q1, q2⟩
  refine ⟨fun k m H2 => m = xs.length - k ∧ k ≤ xs.length ∧ ∃ acc us η2, Inv k acc η2 ∧ Rs K T (With F D) σ η2 H2 ∧ Ext σ η σ η2 H H2 ∧ H2 D = some (.lst us) ∧ Reps K (Oof (With F D) σ η2) H2 acc us, ⟨_, rfl, Nat.zero_le _, [], [], wipeP η vs, i0, (R.add (o := .lst []) hD nofun).wipe rfl (fun _ _ => rfl), (Ext.same (Same.new hD)).trans (.wipe fun _ _ => rfl), upd_same, .nil⟩, ?_⟩
  rintro k' m H2 ⟨rfl, hk, acc, us, η2, p, R2, e2, hd, ru⟩
  obtain ⟨ws, hl, rl⟩ := at_ p R2
  by_cases hlt : k' < xs.length
  · obtain ⟨w0, hw0, rw0⟩ := rl.get (i := k') (x := xs[k']) (by simp [hlt])
    refine .inr ⟨⟨ws, w0, SqL.of hl, hw0⟩, fun H3 => ∃ acc us η3, Inv (k' + 1) acc η3 ∧ Rs K T (With F D) σ η3 H3 ∧ Ext σ η σ η3 H H3 ∧ H3 D = some (.lst us) ∧ Reps K (Oof (With F D) σ η3) H3 acc us,
      fun H' ⟨acc, us, η3, q1, q2, q3, q4, q5⟩ => ⟨xs.length - (k' + 1), by omega, rfl, hlt, acc, us, η3, q1, q2, q3, q4, q5⟩, fun v H3 y => ?_⟩
    obtain ⟨eH, yv⟩ := y
    subst eH
    have yv := yv ws (SqL.of hl)
    rw [hw0] at yv
    obtain rfl := Option.some.inj yv
    have Rb : Rs K T (With F D) (L2.wipe σ vs) (wipeP η2 vs) H3 := R2.wipe (wipe_length _ _) agw
    have eb : Ext σ η (L2.wipe σ vs) (wipeP η2 vs) H H3 := e2.trans (.wipe agw)
    refine ⟨With F D, wipeP η2 vs, _, _, Rb, rw0.car ((Ext.wipe agw).car (F := With F D)), step k' _ acc η2 (by simp [hlt]) p, fun η4 σ4 H4 h4 w4 e4 R4 => ⟨by rw [w4]; exact wipe_set_all, With F D, η4, _, R4, h4, fun c η5 H5 h5 e5 R5 => ?_⟩⟩
    have E5 : Ext σ η σ4 η5 H H5 := (eb.trans e4).trans e5
    have ag4 : ∀ j, j ∉ vs → σ[j]? = σ4[j]? := fun j hj => ((wipe_agree (w4.trans wipe_set_all)).2 j hj).symm
    have ln4 : σ.length = σ4.length := ((wipe_agree (w4.trans wipe_set_all)).1).symm
    have own : ∀ {η6 : EP'} {H6 : Hp}, Ext (L2.wipe σ vs) (wipeP η2 vs) σ4 η6 H3 H6 → H6 D = some (.lst us) := fun ex => ex.keep D _ hd (fun z => by
        obtain ⟨j, p, z1, z2⟩ := z
        obtain ⟨a, q1, q2, q3⟩ := Rb.ow j p z2
        rw [z1] at q1; cases q1
        exact q3 (.inr rfl)) nofun
    cases c with
    | true =>
      simp only [if_true] at h5 ⊢
      refine ⟨With F D, η5, _, R5, h5, fun y η6 w H6 h6 e6 R6 r6 => ?_⟩
      have E6 := E5.trans e6
      have e36 : Ext (L2.wipe σ vs) (wipeP η2 vs) σ4 η6 H3 H6 := (e4.trans e5).trans e6
      have dk := own e36
      have ru6 : Reps K (Oof (With F D) σ4 η6) H6 acc us := (ru.car ((Ext.wipe agw).car (F := With F D))).car (e36.car (F := With F D))
      refine ⟨us, dk, by rw [ru.len]; exact h6.1, acc ++ [y], us ++ [w], wipeP η6 vs, h6.2, (R6.updF (.inr rfl) dk).wipe ln4 ag4, ?_, upd_same, ?_⟩
      · refine Ext.trans ⟨fun b o hb nb t => ?_, fun b hb => ?_, E6.new, E6.fst⟩ (Ext.wipe ag4)
        · rw [upd_ne (fun z => by rw [z, hD] at hb; cases hb)]; exact E6.keep b o hb nb t
        · exact live_upd nofun (E6.live b hb)
      · have c7 : Car (Oof (With F D) σ4 η6) (Oof (With F D) σ4 η6) H6 (upd H6 D (.lst (us ++ [w]))) := fun b o n hb _ => ⟨by rw [upd_ne (fun z => n (.inl (.inr z)))]; exact hb, n⟩
        exact ((ru6.app (.cons r6 .nil)).car c7).car ((Ext.wipe (H := upd H6 D (.lst (us ++ [w]))) ag4).car (F := With F D))
    | false =>
      simp only [Bool.false_eq_true, if_false] at h5 ⊢
      have e35 : Ext (L2.wipe σ vs) (wipeP η2 vs) σ4 η5 H3 H5 := e4.trans e5
      exact ⟨acc, us, wipeP η5 vs, h5, R5.wipe ln4 ag4, E5.trans (.wipe ag4), own e35, ((ru.car ((Ext.wipe agw).car (F := With F D))).car (e35.car (F := With F D))).car ((Ext.wipe ag4).car (F := With F D))⟩
  · have e : k' = xs.length := by omega
    subst e
    exact .inl ⟨⟨ws, SqL.of hl, by rw [rl.len]; exact Nat.le_refl _⟩, k acc η2 D us H2 (fin acc η2 p) e2 R2 hn nF hd ru⟩
theorem zf_lcO {i : Nat} {elt tg iter : Expr} {ifs : List Expr} {scope : Scope} {own : List (Str × Nat)} {g : TGp} {tt : TTp} {te : TEp}
    (pf : PE X (.ListComp elt [⟨tg, iter, ifs, 0⟩] scope pos) (tLc (iList X.K (tVar i)) (upGw X.K T (own.map (·.2)) g) (upB X.K T tt) (up X.K T te) (own.map (·.2)))) : PE X (.ListComp elt [⟨tg, iter, ifs, 0⟩] scope pos) (upF X.K T (tLcOP i g tt te (own.map (·.2)))) :=
  PE.weak pf fun σ H Q q => lcO_weak q
end
/-! ### enumerate over a text -/
def Itse (x : Str) : It where
  go := fun i _ => i < x.cps.size
  yld := fun i H v H' => ∃ p c, x.cps[i]? = some c ∧ v = .ref p ∧ H p = none ∧ H' = upd H p (.tup [.int (i : Nat), .str ⟨#[c]⟩])
  stop := fun i _ => x.cps.size = i
def TnS (x : Str) (t : Tok) (e it : Addr) (i : Nat) (h : Heap) : Prop := (∃ old, IsEnum h e it (0 + ((i : Nat) : Int)) old) ∧ h.IsStrIter it (strIterType x) x t i ∧ e ≠ it
theorem turn_enumS {P : Program} {w : World} {K : PySem.W.Frag} {elts : List Expr} {kk : Nat} {tpos : Pos} (x : Str) (t : Tok) (e it : Addr) : Turn P w K (.Tuple elts kk tpos) (Itse x) [e, it] e (TnS x t e it) where
  mem := by simp
  obj := fun i h st b hb => by
    obtain ⟨⟨old, he⟩, ⟨oi, hi, ci, di⟩, _⟩ := st
    rcases List.mem_cons.mp hb with z | z
    · rw [z]; exact ⟨_, he, fun v q => nomatch q⟩
    · have z : b = it := by simpa using z
      rw [z]; exact ⟨oi, hi, fun v q => by rw [di] at q; cases q⟩
  keep := fun i h h' st k => by
    obtain ⟨⟨old, he⟩, hi, ne⟩ := st
    obtain ⟨o, h1, h2⟩ := hi
    exact ⟨⟨old, k e (by simp) _ he⟩, ⟨o, k it (by simp) o h1, h2⟩, ne⟩
  item := by
    intro X hP hw hK hc i pins s σ H E I hf st hi
    subst hP hw hK
    have Wk := WalksT.enumFrom 0 (Draws.text (prog := X.prog) (w := X.w) (A := X.A.in1) (I.ok.hd hc) it x t) e st.2.2 (by simpa using st.2.2) (by simp)
    have hi' : i < x.cps.size := hi
    refine Wk.item i s _ _ hi' ⟨st.1, st.2.1⟩ fun q vals h' tk ⟨tt, y, ⟨c, u, hc1, ey⟩, ev⟩ hq' hT hm hk => ?_
    subst ey
    refine ⟨_, rfl, Wk.go elts kk tpos i q { s with heap := h', toks := tk } _ _ hm fun h'' st' hk' => ?_⟩
    have nq := Wk.apart i q h' hm
    have hT2 : IsTup h'' q vals := by
      obtain ⟨o, z1, z2⟩ := hT
      exact ⟨o, hk' q o nq z1, z2⟩
    have kp : ∀ b o, b ∉ [e, it] → s.heap.get? b = some o → h''.get? b = some o := fun b o hb z => hk' b o hb (hk b o hb z)
    have new : ObjOk X.prog X.w (upd H q (.tup [.int (i : Nat), .str ⟨#[c]⟩])) h'' q (.tup [.int (i : Nat), .str ⟨#[c]⟩]) := by
      refine ⟨by show 2 ≤ sizeLine; decide, [.int (0 + (i : Int)) tt, .str ⟨#[c]⟩ u], .cons ⟨tt, by rw [Int.zero_add]⟩ (.cons ⟨u, rfl⟩ .nil), ?_⟩
      rw [ev] at hT2; exact hT2
    have hn : H q = none := I.hok.fresh hq'
    refine ⟨.ref q, _, I.turnedNew (t' := tk) (ch := [e, it]) kp hf hq' new, rfl, ⟨q, c, hc1, rfl, hn, rfl⟩, ⟨st'.1, st'.2, st.2.2⟩, fun b hb => ?_⟩
    have hb' : b ≠ q := fun z => nq (by rw [← z]; exact hb)
    rw [upd_ne hb']
    exact (hf b hb).1
  done := by
    intro X hP hw hK hc i pins s σ H E I hf st hl
    subst hP hw hK
    have Wk := WalksT.enumFrom 0 (Draws.text (prog := X.prog) (w := X.w) (A := X.A.in1) (I.ok.hd hc) it x t) e st.2.2 (by simpa using st.2.2) (by simp)
    have hl' : x.cps.size = i := hl
    refine Wk.done s _ _ (by rw [hl']; exact ⟨st.1, st.2.1⟩) fun h' tk kp => ⟨rfl, ?_⟩
    have nit : ∀ b u, H b = some u → b ∉ [e, it] := fun b u z hb => by
      have := (hf b hb).1
      rw [this] at z; cases z
    exact I.step (g' := s.gens) (d' := s.drawn) (t' := tk) (ch := [e, it]) (fun b hb => ⟨(hf b hb).2.2.2.1, (hf b hb).2.1, (hf b hb).2.2.2.2.1, (hf b hb).2.2.2.2.2⟩) (fun b o _ _ hb z _ => kp b o hb z) (fun b o _ _ hb z _ => ⟨o.slots, kp b o hb z⟩) (fun _ _ _ _ n => n)
      (fun b o hb z => ⟨o, kp b o hb z⟩) (fun _ _ z => z) (fun _ _ _ z => z) (fun b ps z => ⟨#[], by rw [z]; simp⟩) (fun m hm => by
        obtain ⟨o, es, ep, ho, r⟩ := hm
        exact ⟨o, es, ep, kp _ o (fun z => (hf _ z).2.1 rfl) ho, r⟩) (fun b u z => (I.hok b u z).stay (fun c v hc q => kp c v (fun y => by
          rcases hc with hc | hc
          · exact nit b u z (by rw [← hc]; exact y)
          · exact nit c _ hc y) q) (fun _ q => q) fun _ _ q => q) I.bare
  self := fun A i s Q E st q => by
    obtain ⟨⟨old, he⟩, _⟩ := st
    exact wpAny_pyIter_enum he q
def iEnumSt (te : TE) : TI := fun σ H R => te σ H fun v H1 => ∃ x, [v] = [V.str x] ∧ R (Itse x) H1
theorem pi_enumS {X : Cx} {e : Expr} {te : TE} {p pos tpos : Pos} {elts : List Expr} {kk : Nat} (hg : Gl X "enumerate") (hm : X.mg "enumerate" = none) (he : PE X e te) (hs : starEach [e] X.env = [(false, eval e X.env)] := by rfl) :
    PI X (.Tuple elts kk tpos) (.Call (.Name "enumerate" p) [e] [] pos) (iEnumSt te) := by
  constructor
  intro pins s σ H R I h
  refine Call_ (ld_blt I hg hm boot_enumerate (PyProof.Rows.callWith_type1 (thn ((pa_cons he pa_nil hs).run pos pins s σ H (fun vs H1 => ∃ x, vs = [V.str x] ∧ R (Itse x) H1) I h) fun us s1 ⟨vs, H1, I1, r1, q1⟩ => ?_) hs rfl))
  obtain ⟨x, rfl, q⟩ := q1
  obtain ⟨u, rfl, ru⟩ := vals1 r1
  obtain ⟨t, rfl⟩ := (show ∃ t, u = Value.str x t from ru)
  refine call_enum1 (begins_text x t) trivial fun h' he hit hk => wpAny_pyIter_enum he ?_
  have I2 : L2.Inv X pins σ H1 { s1 with heap := h' } := I1.kept (t' := s1.toks) hk
  refine ⟨s1.heap.objs.size + 1, [s1.heap.objs.size + 1, s1.heap.objs.size], _, _, H1, rfl, I2, turn_enumS x t (s1.heap.objs.size + 1) s1.heap.objs.size, ⟨⟨.none, he⟩, ⟨_, hit, rfl, rfl⟩, Nat.succ_ne_self _⟩, fun b hb => ?_, q⟩
  have hle : s1.heap.objs.size ≤ b := by
    rcases List.mem_cons.mp hb with z | z
    · rw [z]; exact Nat.le_succ _
    · have z : b = s1.heap.objs.size := by simpa using z
      rw [z]; exact Nat.le_refl _
  exact I1.fpOk hle (I1.hok.fresh hle)
section
variable {X : Cx} {T : List (Addr × Str)} {e : Expr} {te : TEp}
def iEnumSP (te : TEp) : TIp := fun η P => te η fun x η1 => match x with
  | .str z => P (enumP (z.cps.toList.map fun c => .str ⟨#[c]⟩)) η1
  | _ => False
theorem it_enumS {K : PySem.W.Frag} {O H} {x : Str} : Itr8 K O (Itse x) (enumP (x.cps.toList.map fun c => .str ⟨#[c]⟩)) H := fun O' H' tr c _ i => by
  refine ⟨fun y e => ?_, fun e => ?_⟩
  · obtain ⟨z, hz, rfl⟩ := enumP_get e
    rw [List.getElem?_map] at hz
    obtain ⟨c0, h0, rfl⟩ := Option.map_eq_some_iff.mp hz
    have h1 : x.cps[i]? = some c0 := by simpa using h0
    have hi : i < x.cps.size := (Array.getElem?_eq_some_iff.mp h1).1
    refine ⟨hi, fun w H'' q => ?_⟩
    obtain ⟨p, c1, hc1, rfl, hp, rfl⟩ := q
    rw [h1] at hc1; cases hc1
    exact ⟨Same.new hp, rep_newT tr hp (.cons rep_int (.cons (by unfold Rep; rfl) .nil))⟩
  · have h2 : (enumP (x.cps.toList.map fun c => PV.str ⟨#[c]⟩)).length = x.cps.size := by simp [enumP]
    rw [h2] at e
    exact e
theorem zi_enumS {p pos tpos : Pos} {elts : List Expr} {kk : Nat} (hg : Gl X "enumerate") (hm : X.mg "enumerate" = none) (he : PE X e (up X.K T te)) (hs : starEach [e] X.env = [(false, eval e X.env)] := by rfl) :
    PI X (.Tuple elts kk tpos) (.Call (.Name "enumerate" p) [e] [] pos) (upI X.K T (iEnumSP te)) := by
  refine PI.weak (pi_enumS hg hm he hs) fun σ H Q q => ?_
  obtain ⟨F, η, P, R, h, k⟩ := q
  refine ⟨F, η, _, R, h, fun x η1 v H1 h1 e1 R1 r1 => ?_⟩
  split at h1
  · have ev := r1.str_
    subst ev
    exact ⟨_, rfl, k _ _ _ _ h1 e1 R1 it_enumS⟩
  · cases h1
end
end Z
set_option Elab.async false
set_option linter.all false
set_option maxRecDepth 100000
/-! tuple + tuple, any of them empty; sorted of a tuple; steps of two through a tuple -/
namespace Z
open PySem PySem.Spec L2
open PyProof.Rows hiding St
section
variable {X : Cx}
/-! ### t + u -/
def rAddT : R2p := fun x y P => match x, y with
  | .tup xs, .tup ys => xs.length + ys.length ≤ sizeLine ∧ P (.tup (xs ++ ys))
  | _, _ => False
theorem zo_addT : OpR X (binaryOp .Add) (r2 X.K rAddT) := by
  refine OpR.weak (op_catA (X := X)) fun x y H Q h => ?_
  obtain ⟨O, px, py, P, tr, hx, hy, h, k⟩ := h
  unfold rAddT at h
  split at h
  · rename_i xs ys
    have hx' := hx
    have hy' := hy
    obtain ⟨a, vs, rfl, h1, q1⟩ := hx.tup_
    obtain ⟨b, us, rfl, h2, q2⟩ := hy.tup_
    refine ⟨a, b, vs, us, rfl, rfl, h1.sq, h2.sq, by rw [q1.len, q2.len]; exact h.1, fun z => ?_, fun _ z => ?_, fun _ _ p hp => k.newT h.2 tr (q1.app q2) hp⟩
    · have e : xs = [] := by rw [z] at q1; exact List.length_eq_zero_iff.mp q1.len.symm
      refine k _ _ _ h.2 (Same.refl _) ?_
      rw [e, List.nil_append]
      exact hy'
    · have e : ys = [] := by rw [z] at q2; exact List.length_eq_zero_iff.mp q2.len.symm
      refine k _ _ _ h.2 (Same.refl _) ?_
      rw [e, List.append_nil]
      exact hx'
  · cases h
def rAddA : R2p := fun x y P => rAdd x y P ∨ rAddT x y P
theorem zo_addA : OpR X (binaryOp .Add) (r2 X.K rAddA) := by
  intro pins s σ H x y v u Q I rx ry q
  obtain ⟨O, px, py, P, tr, h1, h2, h, k⟩ := q
  rcases h with h | h
  · exact zo_add pins s σ H x y v u Q I rx ry ⟨O, px, py, P, tr, h1, h2, h, k⟩
  · exact zo_addT pins s σ H x y v u Q I rx ry ⟨O, px, py, P, tr, h1, h2, h, k⟩
end
/-! ### sorted(t) -/
section
variable {prog : Program} {w : World} {A : Around} {E : Value → Shared → Prop} {s : Shared} {β : Type} {vs : List Value} {bs : List β} {enc : β → PyData} {R : Value → β → Prop}
theorem sorted_tup_data {l : Addr} {Q : Value → Shared → Prop} (hl : IsTup s.heap l vs.toArray) (e : PySem.W.EachIs R vs bs) (er : PySem.W.EachIs (fun v b => ∃ as, Reads s.heap v (enc b) as) vs bs) (hal : PySem.W.AllAlike (bs.map enc)) (hk : PySem.W.Sortable (bs.map enc)) (hL : bs.length ≤ sizeLine)
    (hu : ∀ b, b ∈ bs → A.units + 2 + (enc b).depth < cLine) (h : ∀ out, out.length = bs.length → PySem.W.EachIs R out (bs.mergeSort (PySem.W.dataLe false enc)) → Q (.ref (s.heap.objs.size + 1)) { s with heap := sortedAll s.heap vs (List.toArray out) }) :
    wpAny (model prog w) A (call (.builtin "sorted") [.ref l]) Q E s := by
  have er' : PySem.W.EachIs (fun v b => ∃ as, Reads (PySem.W.sortingHeap (PySem.W.copyHeap s.heap vs) (s.heap.objs.size + 1) vs) v (enc b) as) vs bs := er.mono fun _ _ ⟨as, r⟩ => ⟨as, PyProof.Rows.Reads.keeps (fun _ _ => PySem.W.sorting_copy_old) r⟩
  have hb : ∀ d, d ∈ bs.map enc → A.in1.in1.units + d.depth < cLine := by
    intro d hd
    obtain ⟨b, hb, rfl⟩ := List.mem_map.mp hd
    have := hu b hb
    show A.units + 1 + 1 + _ < _
    omega
  have hz : vs.length ≤ sizeLine := by rw [e.length]; exact hL
  refine sort_of_tup hl hz (args_sorted1 _) (fun _ => args_list_sort _) fun E' => ?_
  exact PySem.W.list_sort_vals (s := { s with heap := PySem.W.copyHeap s.heap vs }) (PySem.W.copyHeap_at s.heap vs) (PySem.W.SortsAt.data (s := { s with heap := PySem.W.sortingHeap (PySem.W.copyHeap s.heap vs) (s.heap.objs.size + 1) vs }) (PySem.W.each_map (R := fun v d => ∃ as, Reads (PySem.W.sortingHeap (PySem.W.copyHeap s.heap vs) (s.heap.objs.size + 1) vs) v d as) enc er') hal hk hb) hz
    ⟨rfl, h _ (by rw [PySem.W.sortVals_length false rfl]; exact e.length) (PySem.W.sortVals_data false e er' hal)⟩
end
section
variable {X : Cx}
def rSortT : R1p := fun ps P => match ps with
  | [.tup xs] => ∃ ds, toDs xs = some ds ∧ PySem.W.AllAlike ds ∧ PySem.W.Sortable ds ∧ (∀ x ∈ xs, (encD x).depth ≤ 50) ∧ xs.length ≤ sizeLine ∧ P (.lst (xs.mergeSort (PySem.W.dataLe false encD)))
  | _ => False
theorem zc_sortedT (hu : X.A.units + 64 < cLine) : CallR X (.builtin "sorted") (r1 X.K rSortT) := by
  intro pins s σ H vs us Q I r h
  obtain ⟨O, ps, P, tr, hx, h, k⟩ := h
  unfold rSortT at h
  split at h
  · rename_i xs
    obtain ⟨ds, e, hal, hso, hdp, hz, h⟩ := h
    obtain ⟨v, rfl, rv⟩ := hx.one
    obtain ⟨a, ws, rfl, q, rr⟩ := rv.tup_
    obtain ⟨u, rfl, ru⟩ := vals1 r
    cases ru
    obtain ⟨its, rits, hl, hzz⟩ := I.tuple q.sq
    have em := toDs_map e
    rw [em] at hal hso
    refine sorted_tup_data (R := ValR X.K O H) (enc := encD) hl (each_val rr rits) (each_reads I rfl rr rits e) hal hso hz (fun b hb => by have := hdp b hb; omega) fun out ho eo => ?_
    obtain ⟨ys, r3, r4⟩ := val_each eo
    obtain ⟨c, hc⟩ := sortedAll_at s.heap its out.toArray
    have fr : H (s.heap.objs.size + 1) = none := I.hok.fresh (Nat.le_succ _)
    refine ⟨.ref (s.heap.objs.size + 1), upd H (s.heap.objs.size + 1) (.lst ys), I.laid (t' := s.toks) (fun b o e => sortedAll_old e) (Nat.le_succ _) ⟨?_, out, c, r4, hc⟩, rfl, k.newL h tr r3 fr⟩
    rw [r3.len, List.length_mergeSort]; exact hz
  · cases h
end
end Z
set_option Elab.async false
set_option linter.all false
set_option maxRecDepth 100000
/-! every second item of a tuple -/
namespace Z
open PySem PySem.Spec L2 HT
open PyProof.Rows hiding St
/-- the places a, a + 2, .. below n -/
def twos (a n : Nat) : List Nat := (List.range (Builtin.Slice.slicePlaces (a : Int) (n : Int) 2)).map fun m => a + m * 2
def getsL {α : Type} (is : List Nat) (xs : List α) : List α := is.filterMap (xs[·]?)
theorem reps_gets {K : PySem.W.Frag} {O : Addr → Prop} {H : Hp} : ∀ (is : List Nat) {zs : List PV} {vs : List V}, Reps K O H zs vs → Reps K O H (getsL is zs) (getsL is vs)
  | [], _, _, _ => Reps.nil
  | i :: is, zs, vs, h => by
    unfold getsL
    rw [List.filterMap_cons, List.filterMap_cons]
    cases e : zs[i]? with
    | none =>
      have : vs[i]? = none := by
        rw [List.getElem?_eq_none_iff] at *
        rw [h.len]; exact e
      rw [this]
      exact reps_gets is h
    | some x =>
      obtain ⟨v, ev, r⟩ := h.get e
      rw [ev]
      exact .cons r (reps_gets is h)
theorem vals_gets : ∀ (is : List Nat) {xs : List V} {us : List Value}, Vals xs us → Vals (getsL is xs) (getsL is us)
  | [], _, _, _ => .nil
  | i :: is, xs, us, h => by
    unfold getsL
    rw [List.filterMap_cons, List.filterMap_cons]
    cases e : xs[i]? with
    | none =>
      rw [h.none_of e]
      exact vals_gets is h
    | some x =>
      obtain ⟨v, ev, r⟩ := h.get e
      rw [ev]
      exact .cons r (vals_gets is h)
theorem getsL_len {α : Type} (is : List Nat) (xs : List α) : (getsL is xs).length ≤ is.length := List.length_filterMap_le _ _
theorem twos_len (a n : Nat) : (twos a n).length ≤ n := by
  unfold twos
  rw [List.length_map, List.length_range]
  unfold Builtin.Slice.slicePlaces
  have h2 : (2 : Int) > 0 := by decide
  rw [if_pos h2]
  split <;> omega
section
variable {prog : Program} {w : World} {A : Around} {E : Value → Shared → Prop} {s : Shared}
theorem adjust_two (lo : Option Int) (n : Nat) : Builtin.Slice.sliceAdjust lo none 2 (n : Int) = (((sIx n 0 lo : Nat) : Int), (n : Int)) := by
  have h1 : ¬ ((2 : Int) < 0) := by omega
  unfold Builtin.Slice.sliceAdjust
  simp only [h1, if_false]
  refine Prod.ext ?_ rfl
  cases lo with
  | none => rfl
  | some v => exact clip_eq v n 0
theorem sliceApplied_two {sl : Addr} {vl vs : Value} {lo : Option Int} {n : Nat} {Q : Int × Int × Nat → Shared → Prop} (hs : s.heap.IsSliceOf sl vl .none vs) (pl : IsPart vl lo) (ps : IsPart vs (some 2))
    (h : Q (((sIx n 0 lo : Nat) : Int), 2, Builtin.Slice.slicePlaces ((sIx n 0 lo : Nat) : Int) (n : Int) 2) s) : wpAny (model prog w) A (Builtin.Slice.sliceApplied (.ref sl) (pure (n : Int))) Q E s := by
  obtain ⟨os, hos, hcs, hds⟩ := id hs
  unfold Builtin.Slice.sliceApplied Builtin.Slice.sliceFields
  refine wpAny_bind (wpAny_bind (wpAny_field hos hds (x := vl) rfl (wpAny_bind (wpAny_field hos hds (x := .none) rfl (wpAny_bind (wpAny_field hos hds (x := vs) rfl (wpAny_pure ?_)))))))
  refine wpAny_bind (slicePart_ ps ?_)
  show wpAny _ _ (if ((2 : Int) == 0) = true then _ else _) _ _ s
  rw [if_neg (by decide)]
  refine wpAny_bind (slicePart_ pl (wpAny_bind (slicePart_none (wpAny_bind (wpAny_pure ?_)))))
  show wpAny _ _ (match Builtin.Slice.sliceAdjust lo none 2 (n : Int) with | (lo, hi) => pure (lo, (2 : Int), Builtin.Slice.slicePlaces lo hi 2)) _ _ s
  rw [adjust_two lo n]
  exact wpAny_pure h
theorem pick_two (xs : Array Value) (i k : Nat) : ((List.range k).filterMap fun (m : Nat) => xs[((i : Int) + (m : Int) * 2).toNat]?).toArray = (getsL ((List.range k).map fun m => i + m * 2) xs.toList).toArray := by
  unfold getsL
  rw [List.filterMap_map]
  congr 2
  funext m
  have : ((i : Int) + (m : Int) * 2).toNat = i + m * 2 := by omega
  rw [this]
  simp
theorem getItem_tuple_two {t sl : Addr} {items : Array Value} {vl vs : Value} {lo : Option Int} {Q : Value → Shared → Prop} (ht : IsTup s.heap t items) (hs : s.heap.IsSliceOf sl vl .none vs) (pl : IsPart vl lo) (ps : IsPart vs (some 2))
    (h : Q (.ref s.heap.objs.size) { s with heap := s.heap.push { cls := .type "tuple", data := .seq (getsL (twos (sIx items.size 0 lo) items.size) items.toList).toArray } })
    (hsz : items.size ≤ sizeLine) : wpAny (model prog w) A (getItem (.ref t) (.ref sl)) Q E s := by
  have htake : sizeOk (.seq (getsL (twos (sIx items.size 0 lo) items.size) items.toList).toArray) := by
    show (getsL (twos (sIx items.size 0 lo) items.size) items.toList).toArray.size ≤ sizeLine
    rw [List.size_toArray]
    exact Nat.le_trans (getsL_len _ _) (Nat.le_trans (twos_len _ _) hsz)
  obtain ⟨os, hos, hcs, hds⟩ := id hs
  have hTs : s.TypeIs (.ref sl) "slice" := ⟨os, hos, hcs⟩
  unfold getItem
  try with_reducible refine wpAny_holding ?_
  first | refine wpAny_bind (wpAny_pure ?_) | skip
  refine wpAny_bind (wpAny_sequenceKey ht.typeIs (by decide) ?_)
  refine wpAny_bind (wpAny_callSpecial?_slot (name := Str.ofString "__getitem__") ht.typeIs PyProof.Rows.slot_tuple_getitem
    (wpAny_call_entry PyProof.Rows.slot_tuple_getitem ht.typeIs entry_tuple_getitem ?_ (args_tuple_getitem _ _)))
  show wpAny _ _ (Builtin.Tuple.tupleItemsOf (.ref t) >>= _) _ _ s
  refine wpAny_bind (tupleItemsOf_ ht ?_)
  refine wpAny_bind (wpAny_typeOf hTs ?_)
  rw [if_pos (by decide)]
  refine wpAny_bind (sliceApplied_two hs pl ps ?_)
  have hno : ¬ ((((sIx items.size 0 lo : Nat) : Int) == 0 && (2 : Int) == 1 && (Builtin.Slice.slicePlaces ((sIx items.size 0 lo : Nat) : Int) (items.size : Int) 2) == items.size) = true) := by
    intro q
    rw [Bool.and_eq_true, Bool.and_eq_true] at q
    exact absurd q.1.2 (by decide)
  show wpAny _ _ (if (((sIx items.size 0 lo : Nat) : Int) == 0 && (2 : Int) == 1 && (Builtin.Slice.slicePlaces ((sIx items.size 0 lo : Nat) : Int) (items.size : Int) 2) == items.size) = true then _ else _) _ _ s
  rw [if_neg hno, pick_two]
  first
    | exact wpAny_bind (m := Builtin.Tuple.tupleExact _) (wpAny_newObj_type (wpAny_pure ⟨_, rfl, wpAny_pure h⟩) htake)
    | exact wpAny_bind (m := Builtin.Tuple.tupleExact _) (wpAny_newObj_type (wpAny_bind (wpAny_pure (wpAny_pure ⟨_, rfl, wpAny_pure h⟩))) htake)
    | exact wpAny_bind (wpAny_bind (m := Builtin.Tuple.tupleExact _) (wpAny_newObj_type (wpAny_pure (wpAny_pure ⟨_, rfl, wpAny_pure h⟩)) htake))
    | exact wpAny_bind (wpAny_bind (m := Builtin.Tuple.tupleExact _) (wpAny_newObj_type (wpAny_pure ⟨_, rfl, wpAny_pure h⟩) htake))
end
section
variable {X : Cx} {T : List (Addr × Str)} {e : Expr} {te : TEp} {pos : Pos}
def tTwo (K : PySem.W.Frag) (te : TE) (tl : TO) : TE := fun σ H Q => te σ H fun x H1 => tl σ H1 fun lo H2 => ∃ a xs, x = .ref a ∧ SqT K H2 a xs ∧ ∀ p, H2 p = none → Q (.ref p) (upd H2 p (.tup (getsL (twos (sIx xs.length 0 lo) xs.length) xs)))
theorem pe_two {e : Expr} {te : TE} {lo : Option Expr} {tl : TO} {k : Nat} {p1 p2 pos : Pos} (he : PE X e te) (hl : PO X lo tl) : PE X (.Subscript e (.Slice lo none (some (.Constant (.int 2) k p1)) p2) pos) (tTwo X.K te tl) := by
  refine ⟨fun pins s σ H Q I h => ?_⟩
  refine Subscript_ (thn (he.run pins s σ H _ I h) fun v s1 ⟨x, H1, I1, r1, q1⟩ => ?_)
  have hst : PO X (some (.Constant (.int 2) k p1)) (tPart (tC (.int 2))) := po_some pe_int
  refine wpAny_Slice (thn (hl.run pins s1 σ H1 _ I1 q1) fun vl s2 ⟨l, H2, I2, pl, a, xs, ex, hx, q⟩ => ?_)
  subst ex
  cases r1
  refine thn (po_none.run pins s2 σ H2 (fun o H3 => o = none ∧ H3 = H2) I2 ⟨rfl, rfl⟩) fun vu s3 ⟨u, H3, I3, pu, eu, e3⟩ => ?_
  subst eu e3
  refine thn (hst.run pins s3 σ H3 (fun o H4 => o = some 2 ∧ H4 = H3) I3 ⟨2, rfl, rfl, rfl⟩) fun vs s4 ⟨o, H4, I4, ps, eo, e4⟩ => ?_
  subst eo e4
  cases pu
  have I5 : Inv X pins σ H4 { s4 with heap := s4.heap.push { cls := .type "slice", data := .fields #[vl, .none, vs] } } := I4.kept (t' := s4.toks) fun b ob q => Heap.get?_push_of_some _ q
  obtain ⟨its, r, ht, hz⟩ := I5.tuple hx
  have hlen : its.toArray.size = xs.length := by rw [List.size_toArray]; exact r.length.symm
  show wpAny (model X.prog X.w) X.A (subscriptTail e (.Slice lo none (some (.Constant (.int 2) k p1)) p2) (.ref a) (.ref s4.heap.objs.size)) (EP X pins σ Q) X.xe { s4 with heap := s4.heap.push { cls := .type "slice", data := .fields #[vl, .none, vs] } }
  refine tail_any (ops := [.ref a, .ref s4.heap.objs.size]) ht.typeIs (PyProof.Rows.slot_tuple_getitem.lookup) ?_ (by with_unfolding_all rfl)
  refine getItem_tuple_two ht (Heap.IsSliceOf.new _ vl .none vs) pl ps ?_ (by rw [hlen]; exact hz)
  rw [hlen]
  refine ⟨.ref _, _, I5.laid (t' := s4.toks) (o := .tup (getsL (twos (sIx xs.length 0 l) xs.length) xs)) (fun b ob q => Heap.get?_push_of_some _ q) (Nat.le_refl _) ?_, rfl, q _ (I5.hok.fresh (Nat.le_refl _))⟩
  exact ⟨Nat.le_trans (getsL_len _ _) (Nat.le_trans (twos_len _ _) hz), _, vals_gets _ r, IsTup.new _ _⟩
def rTwo : PV → Option Int → (PV → Prop) → Prop := fun x lo P => match x with
  | .tup xs => P (.tup (getsL (twos (sIx xs.length 0 lo) xs.length) xs))
  | _ => False
def tTwoP (te : TEp) (tl : TOp) : TEp := fun η P => te η fun x η1 => tl η1 fun l η2 => rTwo x l fun z => P z η2
theorem z_two {lo : Option Expr} {tl : TOp} {k : Nat} {p1 p2 : Pos} (he : PE X e (up X.K T te)) (hl : PO X lo (upO X.K T tl)) : PE X (.Subscript e (.Slice lo none (some (.Constant (.int 2) k p1)) p2) pos) (up X.K T (tTwoP te tl)) := by
  refine PE.weak (pe_two he hl) fun σ H Q q => ?_
  obtain ⟨F, η, P, R, h, k⟩ := q
  refine ⟨F, η, _, R, h, fun x η1 v H1 h1 e1 R1 r1 => ⟨F, η1, _, R1, h1, fun l η2 H2 h2 e2 R2 => ?_⟩⟩
  unfold rTwo at h2
  split at h2
  · obtain ⟨a, vs, rfl, q, rr⟩ := (r1.car e2.car).tup_
    refine ⟨a, vs, rfl, q.sq, fun p hp => ?_⟩
    rw [rr.len]
    exact k _ η2 _ _ h2 ((e1.trans e2).trans (.same (Same.new hp))) (R2.same (Same.new hp)) (rep_newT R2.trO hp (reps_gets _ rr))
  · cases h2
end
end Z
set_option Elab.async false
set_option linter.all false
set_option maxRecDepth 100000
/-! a set made of a list of ints, with the order of its table; sorted of it -/
namespace Z
open PySem PySem.Spec L2
open PyProof.Rows hiding St
section
variable {prog : Program} {w : World} {A : Around} {R : Result → Shared → Prop} {I : Addr} {fp wr : List Addr} {G : Array GenState → Array GenState → Prop} {n : Nat} {P : Nat → Value → Prop} {St : Nat → Shared → Prop}
theorem set_loopR (W : WalksS prog w A.in1 I fp wr G n P St) (S : Addr) (hSf : S ∉ fp)
    (val : Nat → Int) (hval : ∀ i v, P i v → ∃ t, v = .int (val i) t) (hb : n + 1 < scanBound) :
    ∀ (k i : Nat) (s : Shared), n - i = k → i ≤ n → St i s →
      SetR w s.heap S (fun k' => (firstMet val i).any (· == k')) (firstMet val i).length →
      (∀ s', Moved (S :: wr) G s s' → SetR w s'.heap S (fun k' => (firstMet val n).any (· == k')) (firstMet val n).length → R (.ok (.ret .none)) s') →
      codeAny (model prog w) A (.builtin "set.update.loop" ⟨[.ref S, .ref I], []⟩) R s := by
  have hSw : S ∉ wr := fun h => hSf (W.sub _ h)
  have hsub : ∀ b ∈ wr, b ∈ S :: wr := fun b hb => List.mem_cons_of_mem _ hb
  intro k
  induction k with
  | zero =>
    intro i s hk hi hst hS hR
    have hin : i = n := by omega
    subst hin
    refine codeAny_builtin F.entry_set_update_loop ?_
    rw [Around.under_plainId F.plain_set_update_loop _]
    show wpAny _ A.in1 (pyNext (.ref I) >>= _) _ _ s
    refine wpAny_bind (W.done s _ _ hst fun s' hm => ?_)
    show wpAny _ A.in1 (ret Value.none) _ _ s'
    exact wpAny_pure (hR s' (hm.mono hsub) (hS.at fun o ho => hm.heap S o hSw ho))
  | succ k ih =>
    intro i s hk hi hst hS hR
    have hlt : i < n := by omega
    refine codeAny_builtin F.entry_set_update_loop ?_
    rw [Around.under_plainId F.plain_set_update_loop _]
    show wpAny _ A.in1 (pyNext (.ref I) >>= _) _ _ s
    refine wpAny_bind (W.item i s _ _ hlt hst fun v s' hP hst' hm => ?_)
    obtain ⟨t, rfl⟩ := hval i v hP
    have hS' : SetR w s'.heap S (fun k' => (firstMet val i).any (· == k')) (firstMet val i).length := hS.at fun o ho => hm.heap S o hSw ho
    show wpAny _ A.in1 (holding [Value.int (val i) t] (setAdd S (.int (val i) t)) >>= _) _ _ s'
    refine wpAny_bind (wpAny_holding ?_)
    unfold setAdd
    refine wpAny_holding ?_
    refine wpAny_bind ((intKind prog w).pyHash (k := val i) (intKind_is _ _ _ _) ?_)
    have hroom : (firstMet val i).length + 1 < scanBound := by have := firstMet_length_le val i; omega
    refine setR_add_hashed (s := { s' with toks := s'.toks + 1 }) hS' hroom fun h' hsb hS2 => ?_
    have hSi : SetR w h' S (fun k' => (firstMet val (i + 1)).any (· == k')) (firstMet val (i + 1)).length := by
      rw [firstMet_succ, step_length]
      exact hS2.congr fun k' => by rw [step_any]
    refine wpAny_pure ⟨plainId_quiet F.plain_set_update_loop _, ih (i + 1) _ (by omega) hlt (W.frame _ s' _ _ hst' (Nat.le_succ _) fun b hb o e => ?_) hSi fun s'' hm'' hS'' => ?_⟩
    · rw [hsb.2 b (fun h : b = S => hSf (by rw [← h]; exact hb))]; exact e
    · refine hR s'' (Moved.trans W.gtrans ((hm.mono hsub).then_heap (Nat.le_succ _) fun b o hb e => ?_) hm'') hS''
      rw [hsb.2 b (fun h : b = S => hb (by rw [h]; exact List.mem_cons_self))]; exact e
end
section
variable {prog : Program} {w : World} {A : Around} {E : Value → Shared → Prop} {s : Shared}
theorem set_new_1R (a : Value) {Q₁ : Value → Shared → Prop}
    (h : Q₁ (.ref s.heap.objs.size) { s with heap := s.heap.push { cls := .type "set", dict := none, data := .set #[] 0 (.fresh 0 0 (!w.params.followText "set-order")) } }) :
    codeAny (model prog w) A (.call (.builtin "set.__new__") ⟨[.type "set", a], []⟩) (wants Q₁ E) s := by
  refine codeAny_of_tree ?_
  show wpAny _ A.in1 (do checkBuiltinCall "set.__new__" ⟨[.type "set", a], []⟩; again (.builtin "set.__new__" ⟨[.type "set", a], []⟩)) _ _ s
  refine wpAny_bind (wpAny_of_eq (F.newCall_set_1 a) (wpAny_pure ⟨plainId_quiet F.plain_set_new _, codeAny_builtin F.entry_set_new ?_⟩))
  rw [Around.under_plainId F.plain_set_new _]
  unfold Builtin.«set.__new__» Builtin.Frozenset.newClass
  have hsub := sub_set_self
  obtain ⟨hp, g, d, tk, os⟩ := s
  dsimp only
  wp_walk
  refine wpAny_askSetting (wpAny_pure ?_)
  dsimp only
  simp only [newObj]
  refine wpAny_bind (wpAny_alloc (wpAny_pure ?_))
  exact wpAny_pure h
set_option maxHeartbeats 3200000 in
theorem set_listR {l : Addr} {items : Array Value} {ns : List Int} {Q : Value → Shared → Prop}
    (hh : A.handled = none) (hl : s.heap.IsList l items) (hi : PyProof.Rows.IntsAre items.toList ns) (hb : items.size + 1 < scanBound)
    (h : ∀ (h' : Heap) (tk : Nat), SetR w h' s.heap.objs.size (fun k' => (PyProof.Rows.firstMet (fun i => ns.getD i 0) items.size).any (· == k')) (PyProof.Rows.firstMet (fun i => ns.getD i 0) items.size).length →
      (∀ b o, b < s.heap.objs.size → s.heap.get? b = some o → h'.get? b = some o) → Q (.ref s.heap.objs.size) { s with heap := h', toks := tk }) :
    wpAny (model prog w) A (call (.type "set") [.ref l]) Q E s := by
  obtain ⟨c, tl, hmro⟩ := F.called_set.mro
  have hmade := F.called_set.made
  have hsub := F.called_set.sub
  refine wpAny_call (codeAny_of_tree ?_)
  show wpAny _ _ (callAny (.type "set") _) _ _ _
  refine wpAny_pure ⟨Code.quiet_builtin _ (by decide +kernel), codeAny_builtin F.entry_type_call ?_⟩
  rw [Around.under_plain (weight_type_call_type "set" [.ref l] []) rfl]
  have h1 := F.called_set.notType
  have h2 := F.called_set.canCreate
  have hct := F.typeCall_set_1 (.ref l)
  repeat (any_goals (first | assumption | wp_step))
  refine codeAny_mono (set_new_1R (.ref l) (E := E) (Q₁ := fun obj s₁ => obj = .ref s.heap.objs.size ∧ s₁ = { s with heap := s.heap.push { cls := .type "set", dict := none, data := .set #[] 0 (.fresh 0 0 (!w.params.followText "set-order")) } }) ⟨rfl, rfl⟩) fun r s₁ hr => ?_
  cases r with
  | error e => exact hr
  | ok fl =>
    cases fl with
    | ret obj =>
      obtain ⟨rfl, rfl⟩ := hr
      have hS : (s.heap.push { cls := .type "set", dict := none, data := .set #[] 0 (.fresh 0 0 (!w.params.followText "set-order")) }).get? s.heap.objs.size = some { cls := .type "set", dict := none, data := .set #[] 0 (.fresh 0 0 (!w.params.followText "set-order")) } := Heap.get?_push_size _ rfl
      have hT : Shared.TypeIs { s with heap := s.heap.push { cls := .type "set", dict := none, data := .set #[] 0 (.fresh 0 0 (!w.params.followText "set-order")) } } (.ref s.heap.objs.size) "set" := ⟨_, hS, rfl⟩
      have hli := F.called_set.init.lookup
      have hbi := F.called_set.init.bind (.ref s.heap.objs.size)
      repeat (any_goals (first | assumption | wp_step))
      refine codeAny_mono (codeAny_call_builtin (R := wants (fun r s₂ => r = .none ∧ ∃ h' tk, s₂ = { s with heap := h', toks := tk } ∧
          SetR w h' s.heap.objs.size (fun k' => (PyProof.Rows.firstMet (fun i => ns.getD i 0) items.size).any (· == k')) (PyProof.Rows.firstMet (fun i => ns.getD i 0) items.size).length ∧
          (∀ b o, b < s.heap.objs.size → s.heap.get? b = some o → h'.get? b = some o)) E) F.called_set.init.plain F.entry_set_init (check_set_init_1 hT ?_)) fun r₂ s₂ hr₂ => ?_
      · obtain ⟨ol, hol, hcl, nl, hdl⟩ := hl
        obtain ⟨ocls, odict, odata, oslots⟩ := ol
        simp only at hcl hdl
        subst hcl; subst hdl
        have hol' : (s.heap.push { cls := .type "set", dict := none, data := .set #[] 0 (.fresh 0 0 (!w.params.followText "set-order")) }).get? l = some { cls := .type "list", dict := odict, data := .seq items nl, slots := oslots } := Heap.get?_push_of_some _ hol
        have hsls := F.sub_list_set
        have hslf := F.sub_list_frozenset
        have hne : (Value.type "list" == Value.type "dict") = false := by decide
        have hl1 : (s.heap.push { cls := .type "set", dict := none, data := .set #[] 0 (.fresh 0 0 (!w.params.followText "set-order")) }).IsList l items := ⟨_, hol', rfl, nl, rfl⟩
        unfold Builtin.«set.__init__» noKeywords Builtin.Frozenset.updateFrom
        generalize hPI : pyIter = PI
        wp_walk
        subst hPI
        refine wpAny_pyIter_list hl1 ?_
        refine wpAny_bind (wpAny_runValue ?_)
        have hlS : l < s.heap.objs.size := Heap.lt_size hol
        have hh3 : A.in1.in1.in1.handled = none := by simp [hh]
        have hneI : l ≠ (s.heap.push { cls := .type "set", dict := none, data := .set #[] 0 (.fresh 0 0 (!w.params.followText "set-order")) }).objs.size := by
          rw [Heap.size_push]; exact Nat.ne_of_lt (Nat.lt_succ_of_lt hlS)
        have hSf : s.heap.objs.size ∉ [(s.heap.push { cls := .type "set", dict := none, data := .set #[] 0 (.fresh 0 0 (!w.params.followText "set-order")) }).objs.size, l] := by
          rw [Heap.size_push]; simp only [List.mem_cons, List.mem_singleton, List.not_mem_nil, or_false, not_or]
          exact ⟨Nat.ne_of_lt (Nat.lt_succ_self _), Nat.ne_of_gt hlS⟩
        have hval : ∀ (i : Nat) (v : Value), items[i]? = some v → ∃ t, v = .int ((fun i => ns.getD i 0) i) t := fun i v hv =>
          PyProof.Rows.IntsAre.int_at hi i v (by rw [Array.getElem?_toList]; exact hv)
        refine set_loopR ((Walks.list hh3 _ l hneI items).toS) s.heap.objs.size
          hSf (fun i => ns.getD i 0) hval hb (items.size - 0) 0 _ (by omega) (Nat.zero_le _)
          ⟨⟨_, Heap.get?_push_size _ rfl, rfl, rfl⟩, (hl1.push _)⟩ ?hS0 ?hR
        case hS0 =>
          have hget : ((s.heap.push { cls := .type "set", dict := none, data := .set #[] 0 (.fresh 0 0 (!w.params.followText "set-order")) }).push { cls := .type "list_iterator", data := .fields #[.ref l, .int 0 0] }).get? s.heap.objs.size
              = some { cls := .type "set", dict := none, data := .set #[] 0 (.fresh 0 0 (!w.params.followText "set-order")) } := Heap.get?_push_of_some _ hS
          exact (setR_fresh (h := s.heap) w).at fun o ho => by rw [hS] at ho; rw [hget]; exact ho
        case hR =>
          intro s' hm hS'
          obtain ⟨h', g', d', tk', os'⟩ := s'
          have eg : g' = s.gens := hm.gens
          have ed : d' = s.drawn := hm.drawn
          have eo : os' = s.os := hm.os
          subst eg; subst ed; subst eo
          show wpAny _ _ _ _ _ _
          refine wpAny_pure ?_
          show wpAny _ _ (ret Value.none) _ _ _
          refine wpAny_pure ⟨rfl, h', tk', rfl, hS', fun b o hb e => ?_⟩
          have hb1 : b ≠ s.heap.objs.size := Nat.ne_of_lt hb
          have hb2 : b ≠ (s.heap.push { cls := .type "set", dict := none, data := .set #[] 0 (.fresh 0 0 (!w.params.followText "set-order")) }).objs.size := by
            rw [Heap.size_push]; exact Nat.ne_of_lt (Nat.lt_succ_of_lt hb)
          exact hm.heap b o (by simp only [List.mem_cons, List.mem_singleton, List.not_mem_nil, or_false, not_or]; exact ⟨hb1, hb2⟩) (Heap.get?_push_of_some _ (Heap.get?_push_of_some _ e))
      · cases r₂ with
        | error e => exact hr₂
        | ok fl₂ =>
          cases fl₂ with
          | ret r =>
            obtain ⟨rfl, h', tk, rfl, hS', hk'⟩ := hr₂
            repeat (any_goals (first | assumption | wp_step))
            exact h _ _ hS' hk'
          | _ => exact hr₂.elim
    | _ => exact hr.elim
end
end Z
set_option Elab.async false
set_option linter.all false
set_option maxRecDepth 100000
/-! zip of two tuples or of two lists; reversed; l[::-1] -/
namespace Z
open PySem PySem.Spec L2
open PyProof.Rows hiding St
def zipP (xs ys : List PV) : List PV := List.zipWith (fun x y => PV.tup [x, y]) xs ys
theorem zipP_get {xs ys : List PV} {i : Nat} {z : PV} (h : (zipP xs ys)[i]? = some z) : ∃ x y, xs[i]? = some x ∧ ys[i]? = some y ∧ z = .tup [x, y] := by
  unfold zipP at h
  rw [List.getElem?_zipWith] at h
  cases p : xs[i]? with
  | none => rw [p] at h; cases h
  | some x =>
    cases q : ys[i]? with
    | none => rw [p, q] at h; cases h
    | some y => rw [p, q] at h; exact ⟨x, y, rfl, rfl, (Option.some.inj h).symm⟩
theorem zipP_end {xs ys : List PV} {i : Nat} (h : (zipP xs ys).length = i) : xs.length ≤ i ∨ ys.length ≤ i := by
  unfold zipP at h
  rw [List.length_zipWith] at h
  omega
section
variable {X : Cx} {T : List (Addr × Str)} {e e2 tg : Expr} {te : TEp} {t : TAp}
theorem it_zipT {K : PySem.W.Frag} {O H} {a b : Addr} {xs ys : List PV} {vs us : List V} (t1 : TupAt K O H a vs) (t2 : TupAt K O H b us) (r1 : Reps K O H xs vs) (r2 : Reps K O H ys us) : Itr8 K O (RZ.ItzT K a b) (zipP xs ys) H := fun O' H' tr c _ i => by
  have h1 := t1.inj_car c
  have h2 := t2.inj_car c
  have s1 := r1.car c
  have s2 := r2.car c
  refine ⟨fun z e => ?_, fun e => ⟨vs, us, h1, h2, by rw [s1.len, s2.len]; exact zipP_end e⟩⟩
  obtain ⟨x, y, hx, hy, rfl⟩ := zipP_get e
  obtain ⟨v, e1, q1⟩ := s1.get hx
  obtain ⟨u, e2, q2⟩ := s2.get hy
  refine ⟨⟨vs, us, v, u, h1, h2, e1, e2⟩, fun w H'' q => ?_⟩
  obtain ⟨p, x', y', rfl, hp, rfl, kx, ky⟩ := q
  have k1 := kx vs h1
  have k2 := ky us h2
  rw [e1] at k1; cases k1
  rw [e2] at k2; cases k2
  exact ⟨Same.new hp, rep_newT tr hp (.cons q1 (.cons q2 .nil))⟩
theorem it_zipL {K : PySem.W.Frag} {O H} {a b : Addr} {xs ys : List PV} {vs us : List V} (n1 : ¬ O a) (t1 : H a = some (.lst vs)) (n2 : ¬ O b) (t2 : H b = some (.lst us)) (r1 : Reps K O H xs vs) (r2 : Reps K O H ys us) : Itr8 K O (Itz K a b) (zipP xs ys) H := fun O' H' tr c _ i => by
  have h1 : SqL K H' a vs := SqL.of (c a _ n1 t1 nofun).1
  have h2 : SqL K H' b us := SqL.of (c b _ n2 t2 nofun).1
  have s1 := r1.car c
  have s2 := r2.car c
  refine ⟨fun z e => ?_, fun e => ⟨vs, us, h1, h2, by rw [s1.len, s2.len]; exact zipP_end e⟩⟩
  obtain ⟨x, y, hx, hy, rfl⟩ := zipP_get e
  obtain ⟨v, e1, q1⟩ := s1.get hx
  obtain ⟨u, e2, q2⟩ := s2.get hy
  refine ⟨⟨vs, us, v, u, h1, h2, e1, e2⟩, fun w H'' q => ?_⟩
  obtain ⟨p, x', y', rfl, hp, rfl, kx, ky⟩ := q
  have k1 := kx vs h1
  have k2 := ky us h2
  rw [e1] at k1; cases k1
  rw [e2] at k2; cases k2
  exact ⟨Same.new hp, rep_newT tr hp (.cons q1 (.cons q2 .nil))⟩
def iZipP (t : TAp) : TIp := fun η P => t η fun zs η1 => match zs with
  | [.tup xs, .tup ys] => P (zipP xs ys) η1
  | [.lst xs, .lst ys] => P (zipP xs ys) η1
  | _ => False
theorem zi_zip {p pos tpos : Pos} {elts : List Expr} {kk : Nat} (hg : Gl X "zip") (hm : X.mg "zip" = none) (ha : PA X [e, e2] (upA X.K T t))
    (hs : starEach [e, e2] X.env = (false, eval e X.env) :: starEach [e2] X.env := by rfl) (hpl : (backTo pos (starEach [e2] X.env)).any (·.1) = false := by rfl) :
    PI X (.Tuple elts kk tpos) (.Call (.Name "zip" p) [e, e2] [] pos) (upI X.K T (iZipP t)) := by
  refine PI.weak (RZ.pi_zipA hg hm ha hs hpl) fun σ H Q q => ?_
  obtain ⟨F, η, P, R, h, k⟩ := q
  refine ⟨F, η, _, R, h, fun zs η1 vs H1 h1 e1 R1 r1 => ?_⟩
  split at h1
  · obtain ⟨v, w, rfl, ra, rb⟩ := r1.two
    obtain ⟨a, vs, rfl, q, rr⟩ := ra.tup_
    obtain ⟨b, us, rfl, q2, rr2⟩ := rb.tup_
    exact ⟨a, b, vs, us, rfl, .inr ⟨q.sq, q2.sq, k _ _ _ _ h1 e1 R1 (it_zipT q q2 rr rr2)⟩⟩
  · obtain ⟨v, w, rfl, ra, rb⟩ := r1.two
    obtain ⟨a, vs, rfl, n, q, rr⟩ := ra.lst_
    obtain ⟨b, us, rfl, n2, q2, rr2⟩ := rb.lst_
    exact ⟨a, b, vs, us, rfl, .inl ⟨SqL.of q, SqL.of q2, k _ _ _ _ h1 e1 R1 (it_zipL n q n2 q2 rr rr2)⟩⟩
  · cases h1
/-! reversed -/
def iRevP (te : TEp) : TIp := fun η P => te η fun x η1 => match x with
  | .lst xs => P xs.reverse η1
  | .tup xs => P xs.reverse η1
  | _ => False
theorem rev_get {xs : List PV} {i : Nat} {x : PV} (h : xs.reverse[i]? = some x) : i < xs.length ∧ xs[xs.length - 1 - i]? = some x := by
  have hi : i < xs.length := by
    have := (List.getElem?_eq_some_iff.mp h).1
    rwa [List.length_reverse] at this
  rw [List.getElem?_reverse hi] at h
  exact ⟨hi, h⟩
theorem zi_rev {p pos : Pos} (hg : Gl X "reversed") (hm : X.mg "reversed" = none) (he : PE X e (up X.K T te)) (hs : starEach [e] X.env = (false, eval e X.env) :: starEach [] X.env := by rfl) : PI X tg (.Call (.Name "reversed" p) [e] [] pos) (upI X.K T (iRevP te)) := by
  refine PI.weak (RT.pi_revA hg hm he hs) fun σ H Q q => ?_
  obtain ⟨F, η, P, R, h, k⟩ := q
  refine ⟨F, η, _, R, h, fun x η1 v H1 h1 e1 R1 r1 => ?_⟩
  split at h1
  · obtain ⟨a, vs, rfl, n, q, rr⟩ := r1.lst_
    refine ⟨a, vs, rfl, .inl ⟨SqL.of q, k _ _ _ _ h1 e1 R1 fun O' H' tr c _ i => ?_⟩⟩
    have h' : SqL X.K H' a vs := SqL.of (c a _ n q nofun).1
    have r' := rr.car c
    refine ⟨fun x e => ?_, fun e => ?_⟩
    · obtain ⟨hi, hx⟩ := rev_get e
      obtain ⟨w, ew, rw'⟩ := r'.get hx
      rw [← r'.len] at hi ew
      refine ⟨⟨hi, vs, w, h', ew⟩, fun u H'' y => ?_⟩
      obtain ⟨e2, y⟩ := y
      subst e2
      have := y vs h'
      rw [ew] at this; cases this
      exact ⟨Same.refl _, rw'⟩
    · show vs.length ≤ i
      rw [List.length_reverse] at e
      rw [r'.len]; omega
  · obtain ⟨a, vs, rfl, q, rr⟩ := r1.tup_
    refine ⟨a, vs, rfl, .inr ⟨q.sq, k _ _ _ _ h1 e1 R1 fun O' H' tr c _ i => ?_⟩⟩
    have h' := q.inj_car c
    have r' := rr.car c
    refine ⟨fun x e => ?_, fun e => ?_⟩
    · obtain ⟨hi, hx⟩ := rev_get e
      obtain ⟨w, ew, rw'⟩ := r'.get hx
      rw [← r'.len] at hi ew
      refine ⟨⟨hi, vs, w, h', ew⟩, fun u H'' y => ?_⟩
      obtain ⟨e2, y⟩ := y
      subst e2
      have := y vs h'
      rw [ew] at this; cases this
      exact ⟨Same.refl _, rw'⟩
    · show vs.length ≤ i
      rw [List.length_reverse] at e
      rw [r'.len]; omega
  · cases h1
/-! l[::-1] -/
def tRevLP (te : TEp) : TEp := fun η P => te η fun x η1 => match x with
  | .lst xs => P (.lst xs.reverse) η1
  | _ => False
theorem z_revL {k : Nat} {p1 p2 p3 pos : Pos} (he : PE X e (up X.K T te)) : PE X (.Subscript e (.Slice none none (some (.UnaryOp .USub (.Constant (.int 1) k p1) p2)) p3) pos) (up X.K T (tRevLP te)) := by
  refine PE.weak (pe_revL he) fun σ H Q q => ?_
  obtain ⟨F, η, P, R, h, k⟩ := q
  refine ⟨F, η, _, R, h, fun x η1 v H1 h1 e1 R1 r1 => ?_⟩
  split at h1
  · obtain ⟨a, vs, rfl, n, q, rr⟩ := r1.lst_
    refine ⟨a, vs, rfl, SqL.of q, fun p hp => ?_⟩
    exact k _ η1 _ _ h1 (e1.trans (.same (Same.new hp))) (R1.same (Same.new hp)) (rep_newL R1.trO hp (reps_rev rr))
  · cases h1
end
end Z
set_option Elab.async false
set_option linter.all false
set_option maxRecDepth 100000
/-! list(range(a, b)) of any ints; min(l); int(b); sorted(set(l)) -/
namespace Z
open PySem PySem.Spec L2
open PyProof.Rows hiding St
section
variable {prog : Program} {w : World} {A : Around} {E : Value → Shared → Prop} {s : Shared}
theorem extend_long {R : Result → Shared → Prop} {r : Addr} {a b c : Int} {t u v : Tok} {n : Nat} (hh : A.handled = none) (hr : IsRange s.heap r a b c t u v) (hbig : Builtin.Range.small a b c = false)
    (hn : Builtin.Range.rangeSize a b c = n) (hlen : n ≤ 2 ^ 24) (S : Addr) (res : Value) (c₀ : Nat) (hS : s.heap.get? S = some { cls := .type "list", data := .seq #[] c₀ })
    (hR : ∀ h' tk acc' c', (∀ b o, b ≠ S → s.heap.get? b = some o → h'.get? b = some o) → h'.get? S = some { cls := .type "list", dict := none, data := .seq acc' c', slots := #[] } →
      ItemsOf (fun i v => ∃ t, v = .int (a + i * c) t) acc' n → R (.ok (.ret res)) { s with heap := h', toks := tk }) :
    wpAny (model prog w) A.in1 (Builtin.List.listExtendWith (.ref S) (.ref r) res)
      (fun fin s' => match fin with | .done f => R (.ok f) s' | .again c' => c'.quiet = true ∧ codeAny (model prog w) A c' R s') (fun e s' => R (.error e) s') s := by
  have hSr : S ≠ r := fun e => by rw [e, hr] at hS; simp at hS
  have hSlt : S < s.heap.objs.size := Heap.lt_size hS
  have hSI : S ≠ s.heap.objs.size := Nat.ne_of_lt hSlt
  have hSf : S ∉ [s.heap.objs.size] := fun hm => hSI (List.mem_singleton.mp hm)
  have W := (Walks.longrange (prog := prog) (w := w) (A := A.in1) hh s.heap.objs.size a c n).toS
  have key : ∀ (h : Heap) (c₁ tk : Nat), IsLongIter h s.heap.objs.size (a + ((0 : Nat) : Int) * c) ((n : Int) - ((0 : Nat) : Int)) c → (∀ b o, b ≠ S → s.heap.get? b = some o → h.get? b = some o) →
      h.get? S = some { cls := .type "list", data := .seq #[] c₁ } → codeAny (model prog w) A (.builtin "list.extend.loop" ⟨[.ref S, .ref s.heap.objs.size, res], []⟩) R { s with heap := h, toks := tk } := by
    intro h c₁ tk hit hk hS₁
    refine codeAny_extend_loopS W (by rw [sizeLine_eq]; omega) S hSf res n 0 _ #[] c₁ rfl (Nat.zero_le _) hit hS₁ (ItemsOf.nil _) fun s' acc' c' hm hS' hacc => ?_
    rw [Moved.eq_with hm]
    refine hR s'.heap s'.toks acc' c' (fun b o hb e => hm.heap b o (fun hmem => ?_) (hk b o hb e)) hS' hacc
    rcases List.mem_cons.mp hmem with e' | hmem
    · exact hb e'
    · exact absurd (Heap.lt_size e) (by rw [List.mem_singleton.mp hmem]; exact Nat.lt_irrefl _)
  unfold Builtin.List.listExtendWith
  refine wpAny_bind (wpAny_typeOf (T := "range") ⟨_, hr, rfl⟩ ?_)
  have h1 : Builtin.List.listSameRef (.ref S) (.ref r) = false := by simp [Builtin.List.listSameRef, hSr]
  have h2 : (Value.type "range" == Value.type "list") = false := by decide
  have h3 : (Value.type "range" == Value.type "tuple") = false := by decide
  simp only [h1, h2, h3, Bool.or_false, Bool.false_eq_true, if_false]
  refine wpAny_bind (wpAny_pyIter_longrange hr hbig ?_)
  refine wpAny_bind (wpAny_holding (wpAny_hint_range (n := n) (Heap.get?_push_of_some _ hr) hn hlen ?_))
  have hit₁ : IsLongIter (s.heap.push { cls := .type "longrange_iterator", data := .fields #[rawInt a, rawInt (Builtin.Range.rangeSize a b c), rawInt c] }) s.heap.objs.size (a + ((0 : Nat) : Int) * c) ((n : Int) - ((0 : Nat) : Int)) c := by
    show IsLongIter _ _ _ _ _; rw [hn]; simpa using Heap.get?_push_size _ rfl
  have hS₁ := Heap.get?_push_of_some { cls := .type "longrange_iterator", data := .fields #[rawInt a, rawInt (Builtin.Range.rangeSize a b c), rawInt c] } hS
  refine wpAny_ite_split (fun _ => ?_) (fun _ => wpAny_pure ⟨plainId_quiet F.plain_extend_loop _, key _ c₀ _ hit₁ (fun b o _ e => Heap.get?_push_of_some _ e) hS₁⟩)
  refine wpAny_bind (wpAny_rule ?_)
  refine wpAny_bind ?_
  show wpAny _ _ (updateSeq S (·.push .none) >>= fun _ => updateSeq S (·.pop)) _ _ _
  refine wpAny_bind (wpAny_updateSeq hS₁ rfl ?_)
  have hS₂ := Heap.get?_update_self (Obj.mapSeq (·.push Value.none)) hS₁ rfl
  refine wpAny_updateSeq (hz := by seq_fits) hS₂ rfl ?_
  have hS₃ := Heap.get?_update_self (Obj.mapSeq (·.pop)) hS₂ rfl
  refine wpAny_pure ⟨plainId_quiet F.plain_extend_loop _, key _ _ _ ?_ (fun b o hb e => ?_) hS₃⟩
  · exact (Heap.get?_update_other _ _ hSI).trans ((Heap.get?_update_other _ _ hSI).trans hit₁)
  · exact (Heap.get?_update_other _ _ (Ne.symm hb)).trans ((Heap.get?_update_other _ _ (Ne.symm hb)).trans (Heap.get?_push_of_some _ e))
theorem init_long {R : Result → Shared → Prop} {r : Addr} {a b c : Int} {t u v : Tok} {n : Nat} (hh : A.handled = none) (hr : IsRange s.heap r a b c t u v) (hbig : Builtin.Range.small a b c = false)
    (hn : Builtin.Range.rangeSize a b c = n) (hlen : n ≤ 2 ^ 24) (S : Addr) (hS : s.heap.get? S = some { cls := .type "list", data := .seq #[] })
    (hR : ∀ h' tk acc' c', (∀ b o, b ≠ S → s.heap.get? b = some o → h'.get? b = some o) → h'.get? S = some { cls := .type "list", dict := none, data := .seq acc' c', slots := #[] } →
      ItemsOf (fun i v => ∃ t, v = .int (a + i * c) t) acc' n → R (.ok (.ret .none)) { s with heap := h', toks := tk }) :
    wpAny (model prog w) A.in1 (Builtin.«list.__init__» ⟨[.ref S, .ref r], []⟩)
      (fun fin s' => match fin with | .done f => R (.ok f) s' | .again c' => c'.quiet = true ∧ codeAny (model prog w) A c' R s') (fun e s' => R (.error e) s') s := by
  have hSr : S ≠ r := fun e => by rw [e, hr] at hS; simp at hS
  show wpAny _ _ (do let old ← Builtin.List.listItems (.ref S); Builtin.List.listUpdate (.ref S) (fun _ => #[]); letGo old.toList.reverse; Builtin.List.listExtendWith (.ref S) (.ref r) .none) _ _ s
  refine wpAny_bind ?_
  unfold Builtin.List.listItems
  refine wpAny_bind (wpAny_seqItems hS rfl (wpAny_pure ?_))
  show wpAny _ _ (updateSeq S (fun _ => #[]) >>= fun _ => letGo (#[] : Array Value).toList.reverse >>= fun _ => Builtin.List.listExtendWith (.ref S) (.ref r) .none) _ _ s
  refine wpAny_bind (wpAny_updateSeq hS rfl ?_)
  have hS₂ := Heap.get?_update_self (Obj.mapSeq (fun _ => (#[] : Array Value))) hS rfl
  have oth : ∀ b o, b ≠ S → s.heap.get? b = some o → (s.heap.update S (Obj.mapSeq (fun _ => (#[] : Array Value)))).get? b = some o :=
    fun b o hb e => (Heap.get?_update_other _ _ (Ne.symm hb)).trans e
  refine wpAny_bind (wpAny_letGo ?_)
  refine extend_long hh (oth r _ (Ne.symm hSr) hr) hbig hn hlen S .none _ hS₂ fun h' tk acc' c' hk hS' hacc => ?_
  exact hR h' tk acc' c' (fun b o hb e => hk b o hb (oth b o hb e)) hS' hacc
theorem list_long {Q : Value → Shared → Prop} {r : Addr} {a b c : Int} {t u v : Tok} {n : Nat} (hh : A.handled = none) (hr : IsRange s.heap r a b c t u v) (hbig : Builtin.Range.small a b c = false)
    (hn : Builtin.Range.rangeSize a b c = n) (hlen : n ≤ 2 ^ 24)
    (hQ : ∀ h' tk acc' c', (∀ b o, s.heap.get? b = some o → h'.get? b = some o) →
      h'.get? s.heap.objs.size = some { cls := .type "list", dict := none, data := .seq acc' c', slots := #[] } → ItemsOf (fun i v => ∃ t, v = .int (a + i * c) t) acc' n → Q (.ref s.heap.objs.size) { s with heap := h', toks := tk }) :
    wpAny (model prog w) A (call (.type "list") [.ref r]) Q E s := by
  refine callType_codes (Q₁ := fun obj s₁ => obj = .ref s.heap.objs.size ∧ s₁ = { s with heap := s.heap.push { cls := .type "list", data := .seq #[] } }) F.called_list (F.typeCall_list_1 _) F.entry_list_init
    (code_list_new _ ⟨rfl, rfl⟩) fun obj s₁ h₁ => ?_
  obtain ⟨rfl, rfl⟩ := h₁
  have hS : (s.heap.push { cls := .type "list", data := .seq #[] }).get? s.heap.objs.size = some { cls := .type "list", data := .seq #[] } := Heap.get?_push_size _ rfl
  refine ⟨⟨_, hS, rfl⟩, F.args_list_init_2 _ _, init_long (A := A.in1) hh (Heap.get?_push_of_some _ hr) hbig hn hlen _ hS fun h' tk acc' c' hk hS' hacc => ?_⟩
  exact ⟨rfl, hQ h' tk acc' c' (fun b o e => hk b o (Nat.ne_of_lt (Heap.lt_size e)) (Heap.get?_push_of_some _ e)) hS' hacc⟩
theorem list_range {Q : Value → Shared → Prop} {r : Addr} {a b : Int} {t u v : Tok} {n : Nat} (hh : A.handled = none) (hr : IsRange s.heap r a b 1 t u v)
    (hn : Builtin.Range.rangeSize a b 1 = n) (hlen : n ≤ 2 ^ 24)
    (hQ : ∀ h' tk acc' c', (∀ b o, s.heap.get? b = some o → h'.get? b = some o) →
      h'.get? s.heap.objs.size = some { cls := .type "list", dict := none, data := .seq acc' c', slots := #[] } → ItemsOf (fun i v => ∃ t, v = .int (a + i * 1) t) acc' n → Q (.ref s.heap.objs.size) { s with heap := h', toks := tk }) :
    wpAny (model prog w) A (call (.type "list") [.ref r]) Q E s := by
  by_cases hs : Builtin.Range.small a b 1 = true
  · exact call_list_range hh hr hs hn hlen hQ
  · exact list_long hh hr (by simpa using hs) hn hlen hQ
end
theorem vals_items {a : Int} : ∀ (us : List Value) (k : Nat), (∀ j v, us[j]? = some v → ∃ t, v = Value.int (a + ((k + j : Nat) : Int) * 1) t) → Vals (((List.range' k us.length).map fun (i : Nat) => a + (i : Int)).map V.int) us
  | [], _, _ => .nil
  | u :: us, k, h => by
    obtain ⟨t, e⟩ := h 0 u rfl
    rw [List.length_cons, List.range'_succ, List.map_cons, List.map_cons]
    refine .cons ⟨t, ?_⟩ (vals_items us (k + 1) fun j v hj => ?_)
    · rw [e]; simp
    · obtain ⟨t', e'⟩ := h (j + 1) v hj
      refine ⟨t', ?_⟩
      rw [e', show k + (j + 1) = k + 1 + j by omega]
section
variable {X : Cx}
def rListRng : List V → Hp → VK → Prop := fun xs H Q => ∃ a i j, xs = [.ref a] ∧ H a = some (.rng i j) ∧ (j - i).toNat ≤ 1000 ∧ ∀ p, H p = none → Q (.ref p) (upd H p (.lst (((List.range (j - i).toNat).map fun (k : Nat) => i + (k : Int)).map V.int)))
theorem size_rng (i j : Int) : Builtin.Range.rangeSize i j 1 = ((j - i).toNat : Int) := by
  unfold Builtin.Range.rangeSize
  rw [if_pos (by decide)]
  by_cases h : i < j
  · rw [if_pos h, Int.ediv_one]; omega
  · rw [if_neg h]; omega
theorem cr_listRng (hc : X.calm = true) : CallR X (.type "list") rListRng := by
  intro pins s σ H xs us Q I r h
  obtain ⟨a, i, j, rfl, ha, hl, q⟩ := h
  rw [Vals.ref1 r]
  obtain ⟨t1, t2, t3, ho⟩ := I.hok a _ ha
  have sz : (16777216 : Nat) = sizeLine := sizeLine_eq.symm
  refine list_range (I.ok.hd hc) ho (size_rng i j) (by omega) fun h' tk acc' c' hk hg hi => ?_
  have hz : acc'.size = (j - i).toNat := hi.1
  have hv := vals_items (a := i) acc'.toList 0 fun k v hkv => by
    obtain ⟨t, e⟩ := hi.2 k v (by rw [← Array.getElem?_toList]; exact hkv)
    exact ⟨t, by rw [e, Nat.zero_add]⟩
  rw [Array.length_toList, hz, ← List.range_eq_range'] at hv
  refine ⟨.ref s.heap.objs.size, upd H s.heap.objs.size (.lst (((List.range (j - i).toNat).map fun (k : Nat) => i + (k : Int)).map V.int)), I.laid (t' := tk) hk (Nat.le_refl _) ⟨?_, acc'.toList, c', hv, hg⟩, rfl, q _ (I.hok.fresh (Nat.le_refl _))⟩
  rw [List.length_map, List.length_map, List.length_range]
  omega
/-- list(range(a, b)) -/
def tListRngP (ta tb : TEp) : TEp := fun η P => ta η fun x η1 => tb η1 fun y η2 => match x, y with
  | .int i, .int j => (j - i).toNat ≤ 1000 ∧ P (.lst (rangeP i (j - i).toNat)) η2
  | _, _ => False
variable {T : List (Addr × Str)} {e : Expr} {te ta tb : TEp}
def rRng2 : List V → Hp → VK → Prop := fun vs H Q => ∃ i j, vs = [V.int i, V.int j] ∧ ∀ p, H p = none → Q (.ref p) (upd H p (.rng i j))
theorem rangeP_map (lo : Int) (n : Nat) : rangeP lo n = (((List.range n).map fun (k : Nat) => lo + (k : Int)).map PV.int) := by
  unfold rangeP; rw [List.map_map]; rfl
theorem z_listRng (pf : PE X e (tCB rListRng (tCons (tCB rRng2 (tCons (up X.K T ta) (tCons (up X.K T tb) tNil))) tNil))) : PE X e (up X.K T (tListRngP ta tb)) := by
  refine PE.weak pf fun σ H Q q => ?_
  obtain ⟨F, η, P, R, h, k⟩ := q
  refine ⟨F, η, _, R, h, fun x η1 v H1 h1 e1 R1 r1 => ⟨F, η1, _, R1, h1, fun y η2 w H2 h2 e2 R2 r2 => ?_⟩⟩
  split at h2
  · rename_i i j
    have ev := (r1.car e2.car).int_
    have ew := r2.int_
    subst ev; subst ew
    refine ⟨i, j, rfl, fun p hp => ⟨p, i, j, rfl, upd_same, h2.1, fun l hl => ?_⟩⟩
    have R3 := R2.same (Same.new (o := .rng i j) hp)
    refine k _ η2 _ _ h2.2 (((e1.trans e2).trans (.same (Same.new hp))).trans (.same (Same.new hl))) (R3.same (Same.new hl)) ?_
    rw [rangeP_map]
    exact rep_newL R3.trO hl (ints_reps _)
  · cases h2
/-- min(l) of ints -/
def rMinL : R1p := fun ps P => match ps with
  | [.lst ys] => ∃ ns, intsOf ys = some ns ∧ 0 < ns.length ∧ ∀ m, m ∈ ns → (∀ x, x ∈ ns → m ≤ x) → P (.int m)
  | _ => False
theorem zc_minL (hc : X.calm = true) : CallR X (.builtin "min") (r1 X.K rMinL) := by
  refine CallR.weak (cr_min hc) fun xs H Q h => ?_
  obtain ⟨O, ps, P, tr, hx, h, k⟩ := h
  unfold rMinL at h
  split at h
  · obtain ⟨ns, e, h0, h⟩ := h
    obtain ⟨v, rfl, r⟩ := hx.one
    obtain ⟨a, vs, rfl, n, q, rr⟩ := r.lst_
    have := ints_rep rr e
    subst this
    exact ⟨a, ns, rfl, SqL.of q, h0, fun m h1 h2 => k _ _ _ (h m h1 h2) (Same.refl _) (by unfold Rep; rfl)⟩
  · cases h
/-- int(b), int(i) -/
def rInt1 : R1p := fun ps P => match ps with
  | [.int i] => P (.int i)
  | [.bl b] => P (.int (if b then 1 else 0))
  | _ => False
theorem zc_int1 : CallR X (.type "int") (r1 X.K rInt1) := by
  refine CallR.weak (call_int1 (X := X)) fun xs H Q h => ?_
  obtain ⟨O, ps, P, tr, hx, h, k⟩ := h
  unfold rInt1 at h
  split at h
  · obtain ⟨v, rfl, r⟩ := hx.one
    cases r.int_
    exact .inl ⟨_, rfl, k.int h⟩
  · obtain ⟨v, rfl, r⟩ := hx.one
    cases r.bl_
    exact .inr ⟨_, rfl, k.int h⟩
  · cases h
/-- set(l) of a list of ints -/
def rSetOf (X : Cx) : List V → Hp → VK → Prop := fun xs H Q => ∃ (a : Addr) (ns : List Int), xs = [.ref a] ∧ SqL X.K H a (ns.map V.int) ∧ ns.length ≤ 60 ∧
  ∀ (S : Int → Bool) (n : Nat) (p : Addr), (∀ k, S k = true ↔ k ∈ ns) → n ≤ ns.length → H p = none → Q (.ref p) (upd H p (SetO X.w p S n))
theorem cr_setOf (hc : X.calm = true) : CallR X (.type "set") (rSetOf X) := by
  intro pins s σ H vs us Q I r h
  obtain ⟨a, ns, rfl, hs, hl, q⟩ := h
  obtain ⟨its, rv, hl', _⟩ := I.list hs
  rw [Vals.ref1 r]
  have hlen : its.length = ns.length := by have := rv.length; rw [List.length_map] at this; exact this.symm
  have hroom : its.toArray.size + 1 < scanBound := by
    show its.length + 1 < scanBound
    have : 100 < scanBound := by decide
    omega
  refine set_listR (items := its.toArray) (ns := ns) (I.ok.hd hc) hl'.isList rv.ints hroom fun h' tk R k => ?_
  have em : (List.range its.length).map (fun i => ns.getD i 0) = ns := by
    rw [hlen]
    refine List.ext_getElem (by simp) fun i h1 h2 => ?_
    simp [List.getD_eq_getElem?_getD, h2]
  refine ⟨.ref s.heap.objs.size, upd H s.heap.objs.size (SetO X.w s.heap.objs.size _ _), I.laid (t' := tk) (fun b u e => k b u (Heap.lt_size e) e) (Nat.le_refl _) (setO_new R), rfl, q _ _ _ (fun j => ?_) ?_ (I.hok.fresh (Nat.le_refl _))⟩
  · show (PyProof.Rows.firstMet (fun i => ns.getD i 0) its.length).any (· == j) = true ↔ j ∈ ns
    rw [PyProof.Rows.firstMet_any, em, List.any_eq_true]
    exact ⟨fun ⟨x, hx, e⟩ => by rw [← of_decide_eq_true (by simpa using e : decide (x = j) = true)]; exact hx, fun hj => ⟨j, hj, by simp⟩⟩
  · have := PyProof.Rows.firstMet_length_le (fun i => ns.getD i 0) its.length
    show (PyProof.Rows.firstMet (fun i => ns.getD i 0) its.length).length ≤ ns.length
    omega
/-- sorted(set(l)) of a list of ints -/
def tSortSetP (te : TEp) : TEp := fun η P => te η fun x η1 => ∃ ns : List Int, x = .lst (ns.map .int) ∧ ns.length ≤ 60 ∧ ∀ ms : List Int, ms.Pairwise (· < ·) → (∀ k, k ∈ ms ↔ k ∈ ns) → ms.length ≤ ns.length → P (.lst (ms.map .int)) η1
theorem z_sortSet (pf : PE X e (tCB (rSortedSet X.w) (tCons (tCB (rSetOf X) (tCons (up X.K T te) tNil)) tNil))) : PE X e (up X.K T (tSortSetP te)) := by
  refine PE.weak pf fun σ H Q q => ?_
  obtain ⟨F, η, P, R, h, k⟩ := q
  refine ⟨F, η, _, R, h, fun x η1 v H1 h1 e1 R1 r1 => ?_⟩
  obtain ⟨ns, rfl, hl, h1⟩ := h1
  obtain ⟨a, vs, rfl, n, q, rr⟩ := r1.lst_
  have := ints_rep rr (intsOf_map ns)
  subst this
  refine ⟨a, ns, rfl, SqL.of q, hl, fun S n p hS hn hp => ⟨p, S, n, rfl, upd_same, by omega, fun ms l hm hk hn' hl => ?_⟩⟩
  have R3 := R1.same (Same.new (o := SetO X.w p S n) hp)
  exact k _ η1 _ _ (h1 ms hm (fun j => (hk j).trans (hS j)) (by omega)) ((e1.trans (.same (Same.new hp))).trans (.same (Same.new hl))) (R3.same (Same.new hl)) (rep_newL R3.trO hl (ints_reps _))
end
end Z
set_option Elab.async false
set_option linter.all false
set_option maxRecDepth 100000
/-! f(.., own list): a def that hands out a new flat list reads an own list as its last argument -/
namespace Z
open PySem PySem.Spec L2
open PyProof.Rows hiding St
section
variable {X : Cx} {T : List (Addr × Str)} {e : Expr} {es : List Expr} {te ta : TEp} {t : TAp} {pos p : Pos} {k : Nat} {f : Addr} {fd : FuncData} {ps : List Str} {x : Str} {i : Nat}
def upAO (K : PySem.W.Frag) (T : List (Addr × Str)) (t : TAp) (i : Nat) : TA := fun σ H Q => ∃ F η P, Rs K T F σ η H ∧ t η P ∧ ∀ xs η' vs H', P xs η' → Ext σ η σ η' H H' → Rs K T F σ η' H' → Reps K (Oof F σ η') H' xs vs → ∃ a, σ[i]? = some (some (V.ref a)) ∧ Q (vs ++ [.ref a]) H'
theorem zo_last (h : PE X e (tVar i)) (hs : starEach [e] X.env = (false, eval e X.env) :: starEach [] X.env := by rfl) : PA X [e] (upAO X.K T tNilP i) := by
  refine PA.weak (pa_cons h pa_nil hs) fun σ H Q q => ?_
  obtain ⟨F, η, P, R, h, k⟩ := q
  obtain ⟨a, hs, q⟩ := k [] η [] H h .refl R .nil
  exact ⟨.ref a, hs, q⟩
theorem zo_cons (ha : PE X e (up X.K T ta)) (hr : PA X es (upAO X.K T t i)) (hs : starEach (e :: es) X.env = (false, eval e X.env) :: starEach es X.env := by rfl) : PA X (e :: es) (upAO X.K T (tConsP ta t) i) := by
  refine PA.weak (pa_cons ha hr hs) fun σ H Q q => ?_
  obtain ⟨F, η, P, R, h, k⟩ := q
  refine ⟨F, η, _, R, h, fun x η1 v H1 h1 e1 R1 r1' => ⟨F, η1, _, R1, h1, fun y η2 w H2 h2 e2 R2' rw' => ?_⟩⟩
  exact k (x :: y) η2 (v :: w) H2 h2 (e1.trans e2) R2' (.cons (r1'.car e2.car) rw')
theorem flV_free {K : PySem.W.Frag} {O O' : Addr → Prop} {H H' : Hp} {x : PV} {v : V} (h : Rep K O H x v) (e : (flV x).isSome = true) : Rep K O' H' x v := by
  cases x <;> first | (unfold Rep at h ⊢; exact h) | (unfold flV at e; cases e)
theorem flVs_free {K : PySem.W.Frag} {O O' : Addr → Prop} {H H' : Hp} : ∀ {xs : List PV} {vs : List V}, Reps K O H xs vs → (∀ x ∈ xs, (flV x).isSome = true) → Reps K O' H' xs vs
  | [], _, h, _ => by rw [h.inv0]; exact .nil
  | x :: xs, _, h, e => by
    obtain ⟨v, us, rfl, r, t⟩ := h.inv
    exact .cons (flV_free r (e x List.mem_cons_self)) (flVs_free t fun y hy => e y (List.mem_cons_of_mem _ hy))
def tCallFOP (sp : SpF) (t : TAp) (i : Nat) : TFp := fun η P => t η fun args η1 => match η1[i]? with
  | some (.ow (.l xs)) => sp (args ++ [.lst xs]) fun ys => (∀ y ∈ ys, (flV y).isSome = true) ∧ P ys η1
  | _ => False
theorem z_callFO {sp : SpF} (Fn : FnOk X.prog X.w X.K X.mg X.base CX0 k f fd ps (upSpF X.K T sp)) (hr : Room k X.A) (hg : Gl X x) (hm : X.mg x = some (.ref f)) (hk : PySem.W.keepIn X.K (.ref f) = true) (hb : Binds X.K fd ps [])
    (ha : PA X (e :: es) (upAO X.K T t i)) (hdb : (x == ("__debug__" : Str)) = false := by decide) (he : starEach (e :: es) X.env = (false, eval e X.env) :: starEach es X.env := by rfl) (hpl : (backTo pos (starEach es X.env)).any (·.1) = false := by rfl) :
    PE X (.Call (.Name x p) (e :: es) [] pos) (upF X.K T (tCallFOP sp t i)) := by
  refine PE.weak (pe_call Fn hr hg hm hk hb .nil pass0 ha hdb he hpl) fun σ H Q q => ?_
  obtain ⟨F, η, P, R, h, k⟩ := q
  refine ⟨F, η, _, R, h, fun args η1 vs H1 h1 e1 R1 r1 => ?_⟩
  split at h1
  · rename_i xs ei
    obtain ⟨a0, s0, ⟨ws, q1, q2⟩, nf0⟩ := R1.ow i _ ei
    refine ⟨a0, s0, ?_⟩
    have sub : ∀ b, (Oof F σ η1 b ∧ b ≠ a0) → Oof F σ η1 b := fun b z => z.1
    refine ⟨fun b => Oof F σ η1 b ∧ b ≠ a0, args ++ [.lst xs], _, fun b z => R1.trO b z.1, R1.tb, ?_, h1, fun ys a us H2 pz g tb hn hv rz => ?_⟩
    · rw [List.append_nil]
      refine (r1.mono sub).app (.cons ?_ .nil)
      unfold Rep
      exact ⟨a0, ws, rfl, fun z => z.2 rfl, q1, q2.mono sub⟩
    · have hn0 : Nw H a := e1.nw hn
      have nF : ¬ F a := fun z => R.tr a z hn0
      have nO : ¬ Oof F σ η1 a := fun z => R1.trO a z hn
      have R2 : Rs X.K T F σ η1 H2 := R1.gr g tb
      have c : Car (Oof F σ η1) (Oof (With F a) σ η1) H1 H2 := fun b u n hb t => ⟨g.keep b u hb t, fun z => by
        rcases z with (z | z) | z
        · exact n (.inl z)
        · exact hn.no (by rw [← z]; exact hb) t
        · exact n (.inr z)⟩
      have R3 : Rs X.K T (With F a) σ η1 H2 := by
        refine ⟨R2.len, fun i y e => ?_, fun i o e => ?_, R2.nd, fun b z => ?_, tb⟩
        · obtain ⟨v, q1, q2⟩ := R1.va i y e
          exact ⟨v, q1, q2.car c⟩
        · obtain ⟨b, q1, q2, q3⟩ := R1.ow i o e
          refine ⟨b, q1, q2.car c ?_, fun z => z.elim q3 fun z => nO (by rw [← z]; exact .inr ⟨i, o, q1, e⟩)⟩
          cases o with
          | l xs => obtain ⟨vs, q, _⟩ := q2; rw [q]; exact g.keep _ _ q nofun
          | o C fs => obtain ⟨dx, ws, q, _⟩ := q2; rw [q]; exact g.keep _ _ q nofun
        · rcases z with z | z
          · exact R2.tr b z
          · rw [z]; exact fun q => q.no hv nofun
      exact k ys η1 a us H2 pz.2 (e1.trans g.ext) R3 hn0 nF hv (flVs_free rz pz.1)
  · cases h1
end
end Z
set_option Elab.async false
set_option linter.all false
set_option maxRecDepth 100000
set_option maxHeartbeats 1000000
/-! for target in zip(o.m(), l): a generator method beside a list -/
namespace Z
open PySem PySem.Spec L2 GenW
open PyProof.Rows hiding St
section
variable {P : Program} {w : World} {A : Around} {E : Value → Shared → Prop} {s : Shared}
theorem nextOf_genG {a : Addr} {g n : Nat} {gs : GenState} {F : Nat → Shared → Shared → Prop} {Er : Value → Shared → Prop} {Y : Protocol} {Q : Value → Shared → Prop} (hh : A.handled = none)
    (hl : s.heap.NoLimit) (hroom : A.depth < recursionLimit) (hg : s.heap.IsGen a g) (hgs : s.gens[g]? = some gs)
    (hgo : gs.Goes (model P w) A.in1 (fun n s₀ r s₁ => ((r = .ok (.ret .none) ∨ r = .ok .next) ∧ F n s₀ s₁) ∨ ∃ e, r = .error e ∧ Er e s₁) Y n (.send .none) (s.setGen g .running))
    (hY : ∀ v s₁ gs', gs'.bare = true → Y (n - 1) (s.setGen g .running) v s₁ (fun r' s'' => match n with
        | 0 => False
        | m + 1 => gs'.Goes (model P w) A.in1 (fun n s₀ r s₁ => ((r = .ok (.ret .none) ∨ r = .ok .next) ∧ F n s₀ s₁) ∨ ∃ e, r = .error e ∧ Er e s₁) Y m r' s'') → Q v (s₁.setGen g gs'))
    (hP : ∀ s₁, F n (s.setGen g .running) s₁ → ∀ h' e, (∀ b o, s₁.heap.get? b = some o → h'.get? b = some o) → (∃ o, h'.get? e = some o ∧ o.cls = .type "StopIteration") → E (.ref e) { s₁.setGen g .finished with heap := h' })
    (hE : ∀ e s₁, Er e s₁ → False) :
    wpAny (model P w) A (Builtin.SmallTypes.nextOf (.ref a)) Q E s := by
  unfold Builtin.SmallTypes.nextOf
  refine wpAny_bind (wpAny_callSpecial?_slot (name := Str.ofString "__next__") hg.typeIs slot_gen_next
    (wpAny_call_entry slot_gen_next hg.typeIs entry_gen_next ?_ (args_gen_next _)))
  show wpAny _ A.in1 (Builtin.Generator.genWake (.ref a) (.send .none)) _ _ s
  unfold Builtin.Generator.genWake
  refine wpAny_bind (wpAny_holding (wpAny_genNumber hg (wpAny_bind (wpAny_genState hgs ?_))))
  cases gs with
  | running => exact hgo.elim
  | finished => exact hgo.elim
  | _ =>
    refine wpAny_bind (wpAny_roomToWake hl hroom ?_)
    show wpAny _ A.in1 (.resume g (.send .none) [] _) _ _ s
    refine wpAny_resumeQ hgs hgo (fun x s₁ hx => ?_) (fun v s₁ gs' hb hv => ?_)
    · rcases hx with ⟨hr, hp⟩ | ⟨e, rfl, he⟩
      · have hres : End.result (.ret x) = .returned .none := by
          rcases hr with hr | hr <;> rw [hr] <;> rfl
        first | rw [hres] | simp only [hres]
        show wpAny _ A.in1 (newExc (.type "StopIteration") [] >>= _) _ _ _
        refine wpAny_bind ?_
        simp only [newExc, newTuple]
        refine wpAny_bind (wpAny_newObj_type ?_ (by size_fits))
        refine wpAny_bind (m := firstArgMember _ _) (wpAny_of_eq (a := Value.none) (by first | rfl | (simp only [firstArgMember]; rfl)) ?_)
        refine wpAny_newObj_type ?_ (by size_fits)
        simp only [raiseNew]
        refine wpAny_bind (wpAny_bind (wpAny_handled ?_))
        first | rw [show A.in1.handled = none from hh] | rw [hh]
        refine wpAny_throw ?_
        exact hP s₁ hp _ _ (fun b o hb => Heap.get?_push_of_some _ (Heap.get?_push_of_some _ hb)) ⟨_, Heap.get?_push_size _ rfl, rfl⟩
      · exact (hE e s₁ he).elim
    · exact wpAny_pure ⟨v, rfl, wpAny_pure (hY v s₁ gs' hb hv)⟩
end
section
variable {P : Program} {w : World} {A : Around} {a it L q : Addr} {g : Nat} {qs : List V}
theorem gen_stepN {gs : GenState} {s : Shared} {i : Nat} {Q : Value → Shared → Prop} {E : Value → Shared → Prop} (hh : A.handled = none) (hl : s.heap.NoLimit) (hroom : A.depth < recursionLimit) (hg : s.heap.IsGen a g) (hgs : s.gens[g]? = some gs)
    (hgo : gs.Goes (model P w) A.in1 (RW it L qs qs.length) (YW it L q qs qs.length) (qs.length - i) (.send .none) (s.setGen g .running)) (hi : i ≤ qs.length) (tq : TupQ qs q s.heap) (q1 : q ≠ it) (q2 : q ≠ L) (a1 : a ≠ it) (a2 : a ≠ L)
    (hY : ∀ v x s1, qs[i]? = some x → RelV x v → GStep it L g s s1 → GAt P w A a it L q g qs (i + 1) s1 → Q v s1)
    (hP : ∀ s1 e, i = qs.length → GStep it L g s s1 → (∃ o, s1.heap.get? e = some o ∧ o.cls = .type "StopIteration") → E (.ref e) s1) :
    wpAny (model P w) A (Builtin.SmallTypes.nextOf (.ref a)) Q E s := by
  have gsz : g < s.gens.size := (Array.getElem?_eq_some_iff.mp hgs).1
  refine nextOf_genG hh hl hroom hg hgs hgo (fun v s₁ gs' hb hy => ?_) (fun s₁ hp h' e hk he => ?_) fun e s₁ he => he
  · obtain ⟨j, x, hj, hx, rv, rel, at1, hk⟩ := hy
    have rel' : ∀ b o, b ≠ it → b ≠ L → s.heap.get? b = some o → s₁.heap.get? b = some o := rel.keep
    have tq1 := tupQ_keep tq q1 q2 rel'
    have k0 := (hk s₁ at1 tq1).2
    cases hn : qs.length - i with
    | zero => rw [hn] at k0; exact k0.elim
    | succ m =>
      rw [hn] at hj k0 hk
      have ej : j = i := by omega
      subst ej
      have sl : sleeps gs' = true := by
        have k0' : gs'.Goes (model P w) A.in1 (RW it L qs qs.length) (YW it L q qs qs.length) m (.send (.bool true)) s₁ := k0
        cases gs' with
        | fresh c => exact absurd k0'.1 (by intro z; cases z)
        | suspended => rfl
        | running => exact k0'.elim
        | finished => exact k0'.elim
      have gens1 : s₁.gens = (s.setGen g .running).gens := rel.gens
      have sz1 : g < s₁.gens.size := by rw [gens1, GenW.setGen_size]; exact gsz
      refine hY v x _ hx rv ⟨rel.os, fun hb0 => ?_, rel'⟩ ⟨⟨gs', setGen_at sz1, sl, hb, fun s'' at2 tq2 => ?_⟩, at1, ?_⟩
      · refine allBare_setGen ?_ hb
        rw [gens1]
        exact allBare_setGen hb0 rfl
      · have := (hk s'' at2 tq2).1
        have e : qs.length - (j + 1) = m := by omega
        rw [e]
        exact this
      · obtain ⟨o, x1, y1, ho, r⟩ := hg
        exact ⟨o, x1, y1, rel' a o a1 a2 ho, r⟩
  · obtain ⟨hn, rel⟩ := hp
    have gens1 : s₁.gens = (s.setGen g .running).gens := rel.gens
    refine hP _ e (by omega) ⟨rel.os, fun hb0 => ?_, fun b o h1 h2 e => hk b o (rel.keep b o h1 h2 e)⟩ he
    refine allBare_setGen ?_ rfl
    rw [gens1]
    exact allBare_setGen hb0 rfl
end
section
variable {P : Program} {w : World} {A : Around} {E : Value → Shared → Prop} {s : Shared}
theorem zipN_item {z TI TO i1 i2 l2 : Addr} {k2 : Nat} {ys : Array Value} {y a b : Value} {N : Value → Shared → Prop} {Q : Value → Shared → Prop}
    (TIz : TI ≠ z) (TOz : TO ≠ z) (TOi2 : TO ≠ i2) (i2z : i2 ≠ z) (l2z : l2 ≠ z) (l2TO : l2 ≠ TO)
    (hz : IsZip s.heap z TI TO .none) (hTI : IsPair s.heap TI (.ref i1) (.ref i2)) (hTO : IsPair s.heap TO a b) (h2 : s.heap.IsListIter i2 l2 k2) (hl2 : s.heap.IsList l2 ys) (hy : ys[k2]? = some y)
    (first : ∀ (h₁ : Heap) (Q1 : Value → Shared → Prop) (E1 : Value → Shared → Prop), IsZip h₁ z TI TO .ellipsis → (∀ c o, c ≠ z → s.heap.get? c = some o → h₁.get? c = some o) →
      (∀ v s2, N v s2 → (∀ c o, (c = z ∨ c = TO ∨ c = i2 ∨ c = l2) → h₁.get? c = some o → s2.heap.get? c = some o) → Q1 v s2) → wpAny (model P w) A (Builtin.SmallTypes.nextOf (.ref i1)) Q1 E1 { s with heap := h₁ })
    (hQ : ∀ v s2 h', N v s2 → IsZip h' z TI TO (rawInt s2.heap.objs.size) → IsPair h' TO v y → h'.IsListIter i2 l2 (k2 + 1) → IsPair h' s2.heap.objs.size v y →
      (∀ c o, c ≠ z → c ≠ TO → c ≠ i2 → s2.heap.get? c = some o → h'.get? c = some o) → Q (.ref s2.heap.objs.size) { s2 with heap := h' }) :
    wpAny (model P w) A (Builtin.«zip.__next__» ⟨[.ref z], []⟩) (fun fin s' => ∃ v, fin = .done (.ret v) ∧ Q v s') E s := by
  show wpAny _ _ (field (.ref z) 2 >>= _) _ _ _
  refine wpAny_bind (wpAny_field hz rfl (x := .bool false) rfl ?_)
  show wpAny _ _ (field (.ref z) 3 >>= _) _ _ _
  refine wpAny_bind (wpAny_field hz rfl (x := .ref TI) rfl ?_)
  refine wpAny_bind (wpAny_seqItems hTI rfl ?_)
  show wpAny _ _ (Builtin.SmallTypes.ownedTupleIsFree (.ref z) >>= _) _ _ _
  refine wpAny_bind ?_
  unfold Builtin.SmallTypes.ownedTupleIsFree
  refine wpAny_bind (wpAny_field hz rfl (x := .none) rfl (wpAny_pure ?_))
  simp only [if_true]
  refine wpAny_bind (wpAny_rule ?_)
  refine wpAny_bind (wpAny_field hz rfl (x := .ref TO) rfl ?_)
  refine wpAny_bind (wpAny_setField_rec hz (by simp) fun h₁ hz₁ hs₁ => ?_)
  replace hz₁ : IsZip h₁ z TI TO .ellipsis := hz₁
  refine wpAny_bind ?_
  simp only [List.zipIdx_cons, List.zipIdx_nil, List.forIn_cons, List.forIn_nil]
  refine wpAny_bind (wpAny_bind (wpAny_onRaise ?_))
  show wpAny _ _ (Builtin.SmallTypes.nextOf (.ref i1) >>= _) _ _ _
  refine wpAny_bind (first h₁ _ _ hz₁ (fun c o hc e => hs₁.extBut _ _ hc e) fun v s2 hN keep => wpAny_pure ?_)
  have hTO₂ : IsPair s2.heap TO a b := keep _ _ (.inr (.inl rfl)) (hs₁.extBut _ _ TOz hTO)
  have hz₂ : IsZip s2.heap z TI TO .ellipsis := keep _ _ (.inl rfl) hz₁
  have h2₂ : s2.heap.IsListIter i2 l2 k2 := (h2.extBut hs₁.extBut i2z).at fun o e => keep _ _ (.inr (.inr (.inl rfl))) e
  have hl2₂ : s2.heap.IsList l2 ys := (hl2.extBut hs₁.extBut l2z).at fun o e => keep _ _ (.inr (.inr (.inr rfl))) e
  refine wpAny_bind (wpAny_seqItems hTO₂ rfl ?_)
  refine wpAny_bind (wpAny_updateSeq_pair hTO₂ fun h₃ hTO₃ hs₃ => ?_)
  replace hTO₃ : IsPair h₃ TO v b := hTO₃
  refine wpAny_bind (wpAny_letGo (wpAny_pure ?_))
  refine wpAny_bind (wpAny_bind (wpAny_onRaise ?_))
  show wpAny _ _ (Builtin.SmallTypes.nextOf (.ref i2) >>= _) _ _ _
  refine wpAny_bind (wpAny_nextOf_list_item (h2₂.extBut hs₃.extBut TOi2.symm) (hl2₂.extBut hs₃.extBut l2TO) hy fun h₄ h2₄ hs₄ => wpAny_pure ?_)
  have hTO₄ : IsPair h₄ TO v b := hs₄.extBut _ _ TOi2 hTO₃
  refine wpAny_bind (wpAny_seqItems hTO₄ rfl ?_)
  refine wpAny_bind (wpAny_updateSeq_pair hTO₄ fun h₅ hTO₅ hs₅ => ?_)
  replace hTO₅ : IsPair h₅ TO v y := hTO₅
  refine wpAny_bind (wpAny_letGo (wpAny_pure (wpAny_pure ?_)))
  refine wpAny_bind (wpAny_seqItems hTO₅ rfl ?_)
  refine wpAny_bind (wpAny_newTuple ?_)
  have hsz : h₅.objs.size = s2.heap.objs.size := by rw [hs₅.1, hs₄.1, hs₃.1]
  have hz₅ : IsZip h₅ z TI TO .ellipsis := hs₅.extBut _ _ TOz.symm (hs₄.extBut _ _ i2z.symm (hs₃.extBut _ _ TOz.symm hz₂))
  have hk₅ : ∀ c o, c ≠ z → c ≠ TO → c ≠ i2 → s2.heap.get? c = some o → h₅.get? c = some o := fun c o c1 c2 c4 e =>
    hs₅.extBut _ _ c2 (hs₄.extBut _ _ c4 (hs₃.extBut _ _ c2 e))
  have h2₅ : h₅.IsListIter i2 l2 (k2 + 1) := h2₄.extBut hs₅.extBut TOi2.symm
  have hzlt : z < h₅.objs.size := Heap.lt_size hz₅
  show wpAny _ _ (Builtin.SmallTypes.ownedTupleHandOut (.ref z) (.ref h₅.objs.size) >>= _) _ _ _
  refine wpAny_bind ?_
  unfold Builtin.SmallTypes.ownedTupleHandOut
  have hz₆ : IsZip (h₅.push { cls := .type "tuple", data := .seq #[v, y] }) z TI TO .ellipsis := Heap.get?_push_of_some _ hz₅
  refine wpAny_bind (wpAny_setField_rec hz₆ (by simp) fun h₇ hz₇ hs₇ => ?_)
  replace hz₇ : IsZip h₇ z TI TO (rawInt h₅.objs.size) := hz₇
  refine wpAny_setField_rec hz₇ (by simp) fun h₈ hz₈ hs₈ => ?_
  replace hz₈ : IsZip h₈ z TI TO (rawInt h₅.objs.size) := hz₈
  have up : ∀ c o, c ≠ z → h₅.get? c = some o → h₈.get? c = some o := fun c o c1 e => hs₈.extBut _ _ c1 (hs₇.extBut _ _ c1 (Heap.get?_push_of_some _ e))
  have hT₈ : IsPair h₈ h₅.objs.size v y := hs₈.extBut _ _ (Nat.ne_of_gt hzlt) (hs₇.extBut _ _ (Nat.ne_of_gt hzlt) (Heap.get?_push_size _ rfl))
  rw [hsz] at hz₈ hT₈
  refine wpAny_pure ⟨_, rfl, ?_⟩
  show Q (.ref h₅.objs.size) _
  rw [hsz]
  exact hQ v s2 h₈ hN hz₈ (up _ _ TOz hTO₅) (h2₅.at fun o e => up _ o i2z e) hT₈ fun c o c1 c2 c4 e => up c o c1 (hk₅ c o c1 c2 c4 e)
theorem zipN_end {z TI TO i1 i2 : Addr} {a b : Value} {N : Shared → Prop} {Q : Fin → Shared → Prop} (hz : IsZip s.heap z TI TO .none) (hTI : IsPair s.heap TI (.ref i1) (.ref i2)) (hTO : IsPair s.heap TO a b)
    (first : ∀ (h₁ : Heap) (Q1 : Value → Shared → Prop) (E1 : Value → Shared → Prop), IsZip h₁ z TI TO .ellipsis → (∀ c o, c ≠ z → s.heap.get? c = some o → h₁.get? c = some o) →
      (∀ e s2, N s2 → (∃ o, s2.heap.get? e = some o ∧ o.cls = .type "StopIteration") → (∀ o, h₁.get? z = some o → s2.heap.get? z = some o) → E1 (.ref e) s2) → wpAny (model P w) A (Builtin.SmallTypes.nextOf (.ref i1)) Q1 E1 { s with heap := h₁ })
    (hE : ∀ s2 h' e, N s2 → (∀ c o, c ≠ z → s2.heap.get? c = some o → h'.get? c = some o) → (∃ o, h'.get? e = some o ∧ o.cls = .type "StopIteration") → E (.ref e) { s2 with heap := h' }) :
    wpAny (model P w) A (Builtin.«zip.__next__» ⟨[.ref z], []⟩) Q E s := by
  show wpAny _ _ (field (.ref z) 2 >>= _) _ _ _
  refine wpAny_bind (wpAny_field hz rfl (x := .bool false) rfl ?_)
  show wpAny _ _ (field (.ref z) 3 >>= _) _ _ _
  refine wpAny_bind (wpAny_field hz rfl (x := .ref TI) rfl ?_)
  refine wpAny_bind (wpAny_seqItems hTI rfl ?_)
  show wpAny _ _ (Builtin.SmallTypes.ownedTupleIsFree (.ref z) >>= _) _ _ _
  refine wpAny_bind ?_
  unfold Builtin.SmallTypes.ownedTupleIsFree
  refine wpAny_bind (wpAny_field hz rfl (x := .none) rfl (wpAny_pure ?_))
  simp only [if_true]
  refine wpAny_bind (wpAny_rule ?_)
  refine wpAny_bind (wpAny_field hz rfl (x := .ref TO) rfl ?_)
  refine wpAny_bind (wpAny_setField_rec hz (by simp) fun h₁ hz₁ hs₁ => ?_)
  replace hz₁ : IsZip h₁ z TI TO .ellipsis := hz₁
  refine wpAny_bind ?_
  simp only [List.zipIdx_cons, List.zipIdx_nil, List.forIn_cons, List.forIn_nil]
  refine wpAny_bind (wpAny_bind (wpAny_onRaise ?_))
  show wpAny _ _ (Builtin.SmallTypes.nextOf (.ref i1) >>= _) _ _ _
  refine wpAny_bind (first h₁ _ _ hz₁ (fun c o hc e => hs₁.extBut _ _ hc e) fun e s2 hN he kz => ?_)
  obtain ⟨oe, hoe, hce⟩ := he
  have hz₂ : IsZip s2.heap z TI TO .ellipsis := kz _ hz₁
  have hez : e ≠ z := fun x => by subst x; rw [hz₂] at hoe; cases hoe; simp at hce
  refine wpAny_setField_rec hz₂ (by simp) fun h₃ _ hs₃ => hE s2 h₃ e hN (fun c o c1 x => hs₃.extBut _ _ c1 x) ⟨oe, hs₃.extBut _ _ hez hoe, hce⟩
theorem pyNext_zipN {z TI TO : Addr} {Q : Option Value → Shared → Prop} (hz : IsZip s.heap z TI TO .none)
    (h : ∀ (E1 : Value → Shared → Prop), (∀ e s1, (∃ o, s1.heap.get? e = some o ∧ o.cls = .type "StopIteration") → Q none s1 → E1 (.ref e) s1) → wpAny (model P w) A.in1 (Builtin.«zip.__next__» ⟨[.ref z], []⟩) (fun fin s' => ∃ v, fin = .done (.ret v) ∧ Q (some v) s') E1 s) :
    wpAny (model P w) A (pyNext (.ref z)) Q E s := by
  have hT : s.TypeIs (.ref z) "zip" := ⟨_, hz, rfl⟩
  unfold pyNext
  refine wpAny_bind (wpAny_attempt (wpAny_callSpecial?_slot (name := Str.ofString "__next__") hT F.slot_zip_next
    (wpAny_call_entry F.slot_zip_next hT F.entry_zip_next (wpAny_mono (h _ fun e s1 he q => ?_) (fun fin s' q => ?_) fun _ _ q => q) (F.args_zip_next_1 _))))
  · obtain ⟨o, ho, hc⟩ := he
    exact wpAny_bind (wpAny_isInstance (T := "StopIteration") (b := true) ⟨o, ho, hc⟩ isSubtype_stop (wpAny_pure q))
  · obtain ⟨v, rfl, q⟩ := q
    exact ⟨v, rfl, wpAny_pure q⟩
abbrev zGH1 (h : Heap) (l2 : Addr) : Heap := h.push { cls := .type "list_iterator", data := .fields #[.ref l2, .int 0 0] }
abbrev zGH2 (h : Heap) (a l2 : Addr) : Heap := (zGH1 h l2).push { cls := .type "tuple", data := .seq #[.ref a, .ref h.objs.size] }
abbrev zGH3 (h : Heap) (a l2 : Addr) : Heap := (zGH2 h a l2).push { cls := .type "tuple", data := .seq #[.none, .none] }
abbrev zGH4 (h : Heap) (a l2 : Addr) : Heap := (zGH3 h a l2).push { cls := .type "zip", data := .fields #[.none, .bool false, .bool false, .ref (zGH1 h l2).objs.size, .ref (zGH2 h a l2).objs.size] }
theorem meets_zipG_new (a l2 : Addr) (g : Nat) (ys : Array Value) :
    Meets (Builtin.«zip.__new__» ⟨[.type "zip", .ref a, .ref l2], []⟩) (fun _ R s => s.heap.IsGen a g ∧ s.heap.IsList l2 ys ∧
      R (.ok (.ret (.ref (zGH3 s.heap a l2).objs.size))) { s with heap := zGH4 s.heap a l2 }) :=
  .of_wp fun prog w A R s h => by
    obtain ⟨hp, g', d, tk, os⟩ := s; obtain ⟨hl1, hl2, h⟩ := h
    have hsub := sub_zip
    have hL1 : Heap.IsGen (Shared.heap ⟨hp, g', d, tk, os⟩) a g := hl1
    have hL2 : Heap.IsList (Shared.heap ⟨hp, g', d, tk, os⟩) l2 ys := hl2
    wp_walk using wpAny_pyIter_gen hL1, wpAny_pyIter_list hL2
    exact ⟨_, rfl, h⟩
theorem call_zipG {a l2 : Addr} {g : Nat} {ys : Array Value} {Q : Value → Shared → Prop} (hl1 : s.heap.IsGen a g) (hl2 : s.heap.IsList l2 ys)
    (h : ∀ h', IsZip h' (s.heap.objs.size + 3) (s.heap.objs.size + 1) (s.heap.objs.size + 2) .none → IsPair h' (s.heap.objs.size + 1) (.ref a) (.ref s.heap.objs.size) →
      IsPair h' (s.heap.objs.size + 2) .none .none → h'.IsListIter s.heap.objs.size l2 0 →
      (∀ c o, s.heap.get? c = some o → h'.get? c = some o) → Q (.ref (s.heap.objs.size + 3)) { s with heap := h' }) :
    wpAny (model P w) A (call (.type "zip") [.ref a, .ref l2]) Q E s := by
  refine callType_new F.called_zip (by decide) (F.typeCall_zip_2 _ _) (F.newCall_zip_2 _ _) (fun obj => F.args_object_init_3 obj _ _) F.entry_zip_new
    (meets_zipG_new a l2 g ys) ⟨hl1, hl2, ?_⟩
  have z1 : (zGH1 s.heap l2).objs.size = s.heap.objs.size + 1 := Heap.size_push ..
  have z2 : (zGH2 s.heap a l2).objs.size = s.heap.objs.size + 2 := by rw [Heap.size_push, z1]
  have z3 : (zGH3 s.heap a l2).objs.size = s.heap.objs.size + 3 := by rw [Heap.size_push, z2]
  have g4 : (zGH4 s.heap a l2).get? (zGH3 s.heap a l2).objs.size = some _ := Heap.get?_push_size _ rfl
  have g3 : (zGH4 s.heap a l2).get? (zGH2 s.heap a l2).objs.size = some _ := Heap.get?_push_of_some _ (Heap.get?_push_size _ rfl)
  have g2 : (zGH4 s.heap a l2).get? (zGH1 s.heap l2).objs.size = some _ := Heap.get?_push_of_some _ (Heap.get?_push_of_some _ (Heap.get?_push_size _ rfl))
  have g1 : (zGH4 s.heap a l2).get? s.heap.objs.size = some _ := Heap.get?_push_of_some _ (Heap.get?_push_of_some _ (Heap.get?_push_of_some _ (Heap.get?_push_size _ rfl)))
  show _ ∧ _
  rw [z1, z2, z3] at g4
  rw [z2] at g3
  rw [z1] at g2
  rw [z3]
  exact ⟨⟨_, g4, rfl⟩, h _ g4 g2 g3 ⟨_, g1, rfl, rfl⟩ fun c o x =>
    Heap.get?_push_of_some _ (Heap.get?_push_of_some _ (Heap.get?_push_of_some _ (Heap.get?_push_of_some _ x)))⟩
end
end Z
set_option Elab.async false
set_option linter.all false
set_option maxRecDepth 100000
set_option maxHeartbeats 1000000
/-! for target in zip(o.m(), l): body -/
namespace Z
open PySem PySem.Spec L2 GenW
open PyProof.Rows hiding St
section
variable {X : Cx} {C : Addr} {fl : Str} {e : Expr} {tw : St → Hp → (Addr → Addr → List V → Hp → Prop) → Prop}
def GStN (X : Cx) (C : Addr) (fl : Str) (a L : Addr) (gn : Nat) (o q : Addr) (qs : List V) (pins : List (Addr × Obj)) (i : Nat) (H : Hp) (s : Shared) : Prop :=
  (i = 0 ∧ (∃ dx fs, H o = some (.ins C dx fs) ∧ fs.lookup fl = some (.ref q)) ∧ WNew X.prog X.w fl o a L gn s) ∨ ∃ it, FpOk X pins H it ∧ GAt X.prog X.w X.A.in1 a it L q gn qs i s
theorem gst_nextN {pins : List (Addr × Obj)} {σ : L2.St} {H : Hp} {s : Shared} {a L o q : Addr} {gn i : Nat} {qs : List V} {Q : Value → Shared → Prop} {E : Value → Shared → Prop} (hh : X.A.handled = none) (hd : X.A.depth < recursionLimit) (c : Cls X.K C) (nf : NoAttr X.K C fl)
    (I : Inv X pins σ H s) (fL : FpOk X pins H L) (hi : i ≤ qs.length) (hq : SqT X.K H q qs) (st : GStN X C fl a L gn o q qs pins i H s)
    (hY : ∀ v x it s4, qs[i]? = some x → RelV x v → FpOk X pins H it → Inv X pins σ H s4 → GAt X.prog X.w X.A.in1 a it L q gn qs (i + 1) s4 → (∀ c o, s.heap.get? c = some o → o.cls ≠ .type "tuple_iterator" → c ≠ it) →
      (∀ c o, s.heap.get? c = some o → o.cls ≠ .type "tuple_iterator" → (∀ es ep, o.data ≠ .dict es ep) → s4.heap.get? c = some o) → Q v s4)
    (hP : ∀ s4 e, i = qs.length → Inv X pins σ H s4 → (∃ o, s4.heap.get? e = some o ∧ o.cls = .type "StopIteration") →
      (∀ c o, s.heap.get? c = some o → o.cls ≠ .type "tuple_iterator" → (∀ es ep, o.data ≠ .dict es ep) → s4.heap.get? c = some o) → E (.ref e) s4) :
    wpAny (model X.prog X.w) X.A.in1 (Builtin.SmallTypes.nextOf (.ref a)) Q E s := by
  have tq : TupQ qs q s.heap := by
    obtain ⟨its, rv, p, hz⟩ := I.tuple hq
    exact ⟨its, rv, p⟩
  obtain ⟨it, gs, hgs, hgo, hgen, fit, q1, q2, a1, a2, ki, kl⟩ : ∃ (it : Addr) (gs : GenState), s.gens[gn]? = some gs ∧ gs.Goes (model X.prog X.w) X.A.in1.in1 (RW it L qs qs.length) (YW it L q qs qs.length) (qs.length - i) (.send .none) (s.setGen gn .running) ∧ s.heap.IsGen a gn ∧ FpOk X pins H it ∧ q ≠ it ∧ q ≠ L ∧ a ≠ it ∧ a ≠ L ∧
      (∀ c o, s.heap.get? c = some o → o.cls ≠ .type "tuple_iterator" → c ≠ it) ∧ (∀ c o, s.heap.get? c = some o → (∀ es ep, o.data ≠ .dict es ep) → c ≠ L) := by
    rcases st with ⟨rfl, ⟨dx, fs, ho, lf⟩, wn⟩ | ⟨it, fit, gat⟩
    · obtain ⟨env, p1, p2, p3, p4, p5, p6, p7, hgs, e1, e2, e3, e4, e5, e6, e7⟩ := wn.gs
      obtain ⟨m, hns, hm⟩ := wn.ns
      obtain ⟨its, rv, ht⟩ := id tq
      obtain ⟨oq, hoq, _⟩ := id ht
      have lq := Heap.lt_size hoq
      obtain ⟨og, nm, qn, eg, _⟩ := id wn.gen
      have la := Heap.lt_size eg
      have lL : L < s.heap.objs.size := hns.lt
      have Ir : Inv X pins σ H (s.setGen gn .running) := inv_gens I rfl rfl (allBare_setGen I.bare rfl)
      refine ⟨s.heap.objs.size, _, hgs, ⟨rfl, ?_⟩, wn.gen, (I.fpOk (Nat.le_refl _) (I.hok.fresh (Nat.le_refl _))), Nat.ne_of_lt lq, tup_ne_ns ht hns, Nat.ne_of_lt la, gen_ne_ns wn.gen hns, fun c o e _ => Nat.ne_of_lt (Heap.lt_size e), fun c o e hd => ?_⟩
      · refine walk_start (A := X.A.in1.in1) (prog := X.prog) (w := X.w) e1 e2 e3 e4 e5 e6 hh (s := s.setGen gn .running) hns hm lL (fun A E Q hQ => ?_) tq fun _ => e7
        obtain ⟨mA, O, r, _, _, _⟩ := ins_get Ir.hok ho
        obtain ⟨u, hu, ru⟩ := RelO.some_of (v := V.ref q) (o := mA fl) (by rw [← lf]; exact r fl)
        have eu : u = Value.ref q := ru
        subst eu
        exact get_map Ir.kIn O (c.get fl) c.hd nf hu (handed_of (v := V.ref q) rfl) hQ
      · rintro rfl
        obtain ⟨o2, es, ep, ho2, hd2, _⟩ := hns
        rw [e] at ho2; cases ho2
        exact hd es ep hd2
    · obtain ⟨gs, h1, h2, h3, h4⟩ := gat.gs
      obtain ⟨m, hns⟩ := gat.at_.ns
      obtain ⟨its, rv, ht⟩ := id tq
      refine ⟨it, gs, h1, h4 (s.setGen gn .running) gat.at_ tq, gat.gen, fit, tup_ne_it ht gat.at_.it, tup_ne_ns ht hns, gen_ne_it gat.gen gat.at_.it, gen_ne_ns gat.gen hns, fun c o e hc => ?_, fun c o e hd => ?_⟩
      · rintro rfl
        obtain ⟨o2, ho2, hc2, hd2⟩ := gat.at_.it
        rw [e] at ho2; cases ho2
        exact hc hc2
      · rintro rfl
        obtain ⟨o2, es, ep, ho2, hd2, _⟩ := hns
        rw [e] at ho2; cases ho2
        exact hd es ep hd2
  exact gen_stepN (A := X.A.in1) hh I.nolimit hd hgen hgs hgo hi tq q1 q2 a1 a2 (fun v x s4 hx rv st gat => hY v x it s4 hx rv fit (inv_gstep I st fit fL) gat ki fun c o e h1 h2 => st.keep c o (ki c o e h1) (kl c o e h2) e)
    fun s4 e hn st he => hP s4 e hn (inv_gstep I st fit fL) he fun c o e h1 h2 => st.keep c o (ki c o e h1) (kl c o e h2) e
theorem var_same {pins : List (Addr × Obj)} {σ : L2.St} {H : Hp} {s : Shared} {j : Nat} {y : Str} {py : Pos} {v : V} {Q : Value → Shared → Prop} {E : Value → Shared → Prop} (I : Inv X pins σ H s) (hN : X.N[j]? = some y) (hv : Vis X.env.scope y) (e : σ[j]? = some (some v))
    (hd : (y == ("__debug__" : Str)) = false) (hcd : (y == ("__classdict__" : Str)) = false) (h : ∀ u, RelV v u → Q u s) : wpAny (model X.prog X.w) X.A (eval (.Name y py) X.env) Q E s := by
  obtain ⟨m, hn, hl⟩ := I.loc
  obtain ⟨u, r, l⟩ := hl j y v hN e hv
  have fin := h u r
  rcases l with ⟨hk, hm⟩ | ⟨hk, c, hc, hcell⟩
  · exact wpAny_Name (wpAny_loadName_local I.ok.kind hk hn hm fin) hd
  · rcases hk with hk | hk
    · exact wpAny_Name (wpAny_loadName_cell I.ok.kind hk hc hcell fin) hd
    · exact wpAny_Name (wpAny_loadName_free I.ok.kind hk hc hcell fin hcd) hd
def tForWZ (K : PySem.W.Frag) (tw : St → Hp → (Addr → Addr → List V → Hp → Prop) → Prop) (j : Nat) (g : TG) (tb : TS) : TS := fun D σ H => tw σ H fun o q qs H1 => ∃ (l : Addr) (ys : List V), σ[j]? = some (some (V.ref l)) ∧ SqL K H1 l ys ∧ qs.length ≤ ys.length ∧ ∃ W : Nat → St → Hp → Prop, W 0 σ H1 ∧ (∀ i σ H, W i σ H → SqT K H q qs ∧ SqL K H l ys) ∧
  (∀ i x y σ H (p : Addr), qs[i]? = some x → ys[i]? = some y → W i σ H → H p = none → g (.ref p) σ (upd H p (.tup [x, y])) fun σ2 H2 => tb { D with nx := W (i + 1), ct := W (i + 1), bk := D.nx } σ2 H2) ∧ ∀ σ H, W qs.length σ H → D.nx σ H
theorem ps_forWZ {elts : List Expr} {kk : Nat} {tpos p py cpos : Pos} {y : Str} {j : Nat} {body : List Stmt} {g : TG} {tb : TS} {pos : Pos} (hxg : XG X) (hp : PassesOwn (model X.prog X.w) X.A X.env X.xe) (hc : X.calm = true) (hw : PWk X C fl e tw) (c : Cls X.K C) (nf : NoAttr X.K C fl) (hg : PG X (.Tuple elts kk tpos) g) (hb : PSs X body tb) (hd : X.A.depth < recursionLimit)
    (hgz : Gl X "zip") (hmz : X.mg "zip" = none) (hN : X.N[j]? = some y) (hv : Vis X.env.scope y) (hdb : (y == ("__debug__" : Str)) = false := by decide) (hcd : (y == ("__classdict__" : Str)) = false := by decide)
    (hs : starEach [e, .Name y py] X.env = (false, eval e X.env) :: starEach [.Name y py] X.env := by rfl) (hpl : (backTo cpos (starEach [.Name y py] X.env)).any (·.1) = false := by rfl) (hs2 : starEach [.Name y py] X.env = (false, eval (.Name y py) X.env) :: starEach [] X.env := by rfl)
    (hf : ∀ x, foldedSetIterable (.Call (.Name "zip" p) [e, .Name y py] [] cpos) X.env x = pure x := by intro _; rfl) :
    PS X (.For (.Tuple elts kk tpos) (.Call (.Name "zip" p) [e, .Name y py] [] cpos) body [] pos) (tForWZ X.K tw j g tb) := by
  refine ⟨fun pins s σ H D I h => ?_⟩
  refine wpAny_For (Call_ (ld_blt I hgz hmz PyProof.Rows.boot_zip (PyProof.Rows.callWith_type1 (args_cons (thn (hw.run pins s σ H _ I h) fun u s1 h1 => ?_) hs) hs hpl))) hf
  obtain ⟨o, q, qs, H1, a, L, gn, rfl, I1, fa, fL, wn, ⟨dx, fs, ho, lf⟩, hq, hl, l, ys, ej, hly, hle, W, w0, wq, step, done⟩ := h1
  refine args_cons (var_same I1 hN hv ej hdb hcd fun u ru => args_nil ?_) hs2
  obtain rfl : u = Value.ref l := ru
  obtain ⟨its0, rv0, p0, hz0⟩ := I1.list hly
  refine call_zipG wn.gen p0.isList fun h' hz hTI hTO hi2 hk => wpAny_pyIter_zip hz ?_
  have hh : X.A.handled = none := I.ok.hd hc
  have I2 : Inv X pins σ H1 { s1 with heap := h' } := I1.kept (t' := s1.toks) hk
  have fq : ∀ b, s1.heap.objs.size ≤ b → FpOk X pins H1 b := fun b hb => I1.fpOk hb (I1.hok.fresh hb)
  obtain ⟨z, hzz⟩ : ∃ z, z = s1.heap.objs.size + 3 := ⟨_, rfl⟩
  obtain ⟨TI, hTIz⟩ : ∃ z, z = s1.heap.objs.size + 1 := ⟨_, rfl⟩
  obtain ⟨TO, hTOz⟩ : ∃ z, z = s1.heap.objs.size + 2 := ⟨_, rfl⟩
  obtain ⟨i2, hi2z⟩ : ∃ z, z = s1.heap.objs.size := ⟨_, rfl⟩
  rw [← hzz] at hz
  rw [← hTIz] at hz hTI
  rw [← hTOz] at hz hTO
  rw [← hi2z] at hTI hi2
  show codeAny _ _ (.forLoop (.Tuple elts kk tpos) (.ref (s1.heap.objs.size + 3)) body [] X.env) _ _
  rw [← hzz]
  have fz := fq z (by omega)
  have fTI := fq TI (by omega)
  have fTO := fq TO (by omega)
  have fi2 := fq i2 (by omega)
  have TIz : TI ≠ z := by omega
  have TOz : TO ≠ z := by omega
  have TOi2 : TO ≠ i2 := by omega
  have i2z : i2 ≠ z := by omega
  have TITO : TI ≠ TO := by omega
  have TIi2 : TI ≠ i2 := by omega
  have wn2 : WNew X.prog X.w fl o a L gn { s1 with heap := h' } := by
    obtain ⟨og, nm, qn, eg, r⟩ := wn.gen
    obtain ⟨m, hns, hm⟩ := wn.ns
    exact ⟨⟨og, nm, qn, hk _ _ eg, r⟩, wn.gs, ⟨m, hns.at' fun o e => hk _ o e, hm⟩⟩
  clear hzz hTIz hTOz hi2z
  have fps : ∀ b ∈ [a, L, z, TI, TO, i2], FpOk X pins H1 b := fun b hb => by
    simp only [List.mem_cons, List.not_mem_nil, or_false] at hb
    rcases hb with rfl | rfl | rfl | rfl | rfl | rfl
    · exact fa
    · exact fL
    · exact fz
    · exact fTI
    · exact fTO
    · exact fi2
  refine codeAny_forLoop_any (fun n s' => ∃ i σ' H', n = qs.length - i ∧ i ≤ qs.length ∧ Inv X pins σ' H' s' ∧ W i σ' H' ∧ (∀ b ∈ [a, L, z, TI, TO, i2], FpOk X pins H' b) ∧
    (IsZip s'.heap z TI TO .none ∧ IsPair s'.heap TI (.ref a) (.ref i2) ∧ (∃ x y, IsPair s'.heap TO x y) ∧ s'.heap.IsListIter i2 l i) ∧ GStN X C fl a L gn o q qs pins i H' s') ?_ qs.length ⟨0, σ, H1, rfl, Nat.zero_le _, I2, w0, fps, ⟨hz, hTI, ⟨_, _, hTO⟩, hi2⟩, .inl ⟨rfl, ⟨dx, fs, ho, lf⟩, wn2⟩⟩
  clear hz hTI hTO hi2 wn2 I2 fps ho lf wn p0 hk
  rintro n s3 ⟨i, σ3, H3, rfl, hi, I3, w3, fp3, ⟨hz3, hTI3, ⟨x0, y0, hTO3⟩, hi3⟩, hst⟩
  obtain ⟨hq3, hl3⟩ := wq i σ3 H3 w3
  obtain ⟨its3, rv3, p3, _⟩ := I3.list hl3
  have hl3' := p3.isList
  obtain ⟨oi, hoi, ci, di⟩ := id hi3
  obtain ⟨ol, hol, cl', nl', dl⟩ := id hl3'
  have lz : l ≠ z := fun e => by rw [e, hz3] at hol; cases hol; simp at cl'
  have lTO : l ≠ TO := fun e => by rw [e, hTO3] at hol; cases hol; simp at cl'
  have mz : FpOk X pins H3 z := fp3 z (by simp)
  have mL : FpOk X pins H3 L := fp3 L (by simp)
  -- the generator's own, behind a change at z
  have moved : ∀ h₁ : Heap, (∀ c o, c ≠ z → s3.heap.get? c = some o → h₁.get? c = some o) → Inv X pins σ3 H3 { s3 with heap := h₁ } ∧ GStN X C fl a L gn o q qs pins i H3 { s3 with heap := h₁ } := fun h₁ k1 => by
    refine ⟨I3.turnedL (t' := s3.toks) (ch := [z]) (fun b o hb e => k1 b o (by simpa using hb) e) (fun b hb => by rw [List.mem_singleton.mp hb]; exact mz), ?_⟩
    have genOk : ∀ g', s3.heap.IsGen a g' → h₁.IsGen a g' := fun g' hg' => by
      obtain ⟨og, nm, qn, eg, cg, r⟩ := hg'
      exact ⟨og, nm, qn, k1 _ _ (fun e => by rw [e, hz3] at eg; cases eg; simp at cg) eg, cg, r⟩
    have nsOk : ∀ m, s3.heap.Ns L m → h₁.Ns L m := fun m hns => by
      obtain ⟨o2, es, ep, ho2, hd2, _⟩ := id hns
      have : L ≠ z := fun e => by rw [e, hz3] at ho2; cases ho2; cases hd2
      exact hns.at' fun o e => k1 L o this e
    rcases hst with ⟨e0, hfs, wn⟩ | ⟨it, fit, gat⟩
    · obtain ⟨m, hns, hm⟩ := wn.ns
      exact .inl ⟨e0, hfs, genOk _ wn.gen, wn.gs, ⟨m, nsOk m hns, hm⟩⟩
    · obtain ⟨m, hns⟩ := gat.at_.ns
      obtain ⟨o2, ho2, hc2, hd2⟩ := gat.at_.it
      have : it ≠ z := fun e => by rw [e, hz3] at ho2; cases ho2; simp at hc2
      exact .inr ⟨it, fit, gat.gs, ⟨⟨m, nsOk m hns⟩, ⟨o2, k1 _ _ this ho2, hc2, hd2⟩⟩, genOk _ gat.gen⟩
  by_cases hlt : i < qs.length
  · obtain ⟨y1, hy1⟩ : ∃ y1, ys[i]? = some y1 := ⟨_, List.getElem?_eq_getElem (by omega)⟩
    obtain ⟨u, hu, ru⟩ := rv3.get hy1
    let N : Value → Shared → Prop := fun v s2 => ∃ x it, qs[i]? = some x ∧ RelV x v ∧ FpOk X pins H3 it ∧ Inv X pins σ3 H3 s2 ∧ GAt X.prog X.w X.A.in1 a it L q gn qs (i + 1) s2 ∧ (z ≠ it ∧ TO ≠ it ∧ i2 ≠ it) ∧ IsPair s2.heap TI (.ref a) (.ref i2) ∧ (z < s2.heap.objs.size ∧ TO < s2.heap.objs.size ∧ i2 < s2.heap.objs.size)
    refine pyNext_zipN hz3 fun E1 _ => zipN_item (N := N) TIz TOz TOi2 i2z lz lTO hz3 hTI3 hTO3 hi3 hl3' (y := u) (by simpa using hu) (fun h₁ Q1 E1 hz1 k1 cont => ?_) fun v s4 h' hN hz' hTO' hi' hT hk' => ?_
    · obtain ⟨I3', hst'⟩ := moved h₁ k1
      have o1 := k1 TO _ TOz hTO3
      have o2 := k1 i2 _ i2z hoi
      have o3 := k1 l _ lz hol
      have o4 := k1 TI _ TIz hTI3
      refine gst_nextN hh hd c nf I3' mL hi hq3 hst' (fun v x it s4 hx rv fit I4 gat ki kp => ?_) fun s4 e hn => by omega
      have kz := kp z _ hz1 (by simp) (fun es ep => by simp)
      have kTO := kp TO _ o1 (by simp) (fun es ep => by simp)
      have ki2 := kp i2 _ o2 (by rw [ci]; simp) (fun es ep => by rw [di]; simp)
      have kTI := kp TI _ o4 (by simp) (fun es ep => by simp)
      refine cont v s4 ⟨x, it, hx, rv, fit, I4, gat, ⟨ki z _ hz1 (by simp), ki TO _ o1 (by simp), ki i2 _ o2 (by rw [ci]; simp)⟩, kTI, Heap.lt_size kz, Heap.lt_size kTO, Heap.lt_size ki2⟩ fun c o hc eo => ?_
      rcases hc with rfl | rfl | rfl | rfl
      · rw [hz1] at eo; rw [← eo]; exact kz
      · rw [o1] at eo; rw [← eo]; exact kTO
      · rw [o2] at eo; rw [← eo]; exact ki2
      · rw [o3] at eo; rw [← eo]
        exact kp _ _ o3 (by rw [cl']; simp) (fun es ep => by rw [dl]; simp)
    · obtain ⟨x, it, hx, rv, fit, I4, gat, ⟨zit, TOit, i2it⟩, hTI4, ltz, ltTO, lti2⟩ := hN
      refine wpAny_letOwnedTupleGo_zip (s := { s4 with heap := h' }) hz' fun h'' hz'' sb => ?_
      have keep45 : ∀ c o, c ≠ z → c ≠ TO → c ≠ i2 → s4.heap.get? c = some o → h''.get? c = some o := fun c o h1 h2 h3 e => (sb.2 c h1).trans (hk' c o h1 h2 h3 e)
      have hT2 : h''.get? s4.heap.objs.size = some { cls := .type "tuple", data := .seq #[v, u] } := (sb.2 _ (Nat.ne_of_gt ltz)).trans hT
      have hp0 : H3 s4.heap.objs.size = none := I4.hok.fresh (Nat.le_refl _)
      obtain ⟨pz, hpz⟩ : ∃ pz, pz = s4.heap.objs.size := ⟨_, rfl⟩
      have new : ObjOk X.prog X.w (upd H3 s4.heap.objs.size (.tup [x, y1])) h'' s4.heap.objs.size (.tup [x, y1]) :=
        ⟨by show 2 ≤ sizeLine; decide, [v, u], .cons rv (.cons ru .nil), ⟨_, hT2, rfl, _, rfl⟩⟩
      have I5 : Inv X pins σ3 (upd H3 s4.heap.objs.size (.tup [x, y1])) { s4 with heap := h'' } :=
        I4.turnedNew (t' := s4.toks) (ch := [z, TO, i2]) (fun c o hb e => keep45 c o (fun q' => hb (by simp [q'])) (fun q' => hb (by simp [q'])) (fun q' => hb (by simp [q'])) e)
          (fun b hb => by
            simp only [List.mem_cons, List.not_mem_nil, or_false] at hb
            rcases hb with rfl | rfl | rfl <;> exact fp3 _ (by simp)) (Nat.le_refl _) new
      obtain ⟨og, nm, qn, eg, cg, dg, sg⟩ := id gat.gen
      obtain ⟨m, hns⟩ := gat.at_.ns
      obtain ⟨oL, es, ep, eL, dL, _⟩ := id hns
      obtain ⟨oit, eit, cit, dit⟩ := gat.at_.it
      -- where the parts of the zip stand
      have hz4 : h''.get? z = _ := hz''
      have az : a ≠ z := fun e => by
        have := (fp3 a (by simp)).1
        rw [e] at eg
        rcases hst with ⟨_, _, wn⟩ | ⟨it', _, gat'⟩
        · obtain ⟨o2, nm2, qn2, eg2, cg2, _⟩ := wn.gen
          rw [e, hz3] at eg2; cases eg2; simp at cg2
        · obtain ⟨o2, nm2, qn2, eg2, cg2, _⟩ := gat'.gen
          rw [e, hz3] at eg2; cases eg2; simp at cg2
      have aTO : a ≠ TO := fun e => by
        rcases hst with ⟨_, _, wn⟩ | ⟨it', _, gat'⟩
        · obtain ⟨o2, nm2, qn2, eg2, cg2, _⟩ := wn.gen
          rw [e, hTO3] at eg2; cases eg2; simp at cg2
        · obtain ⟨o2, nm2, qn2, eg2, cg2, _⟩ := gat'.gen
          rw [e, hTO3] at eg2; cases eg2; simp at cg2
      have ai2 : a ≠ i2 := fun e => by
        rcases hst with ⟨_, _, wn⟩ | ⟨it', _, gat'⟩
        · obtain ⟨o2, nm2, qn2, eg2, cg2, _⟩ := wn.gen
          rw [e, hoi] at eg2; cases eg2; rw [ci] at cg2; simp at cg2
        · obtain ⟨o2, nm2, qn2, eg2, cg2, _⟩ := gat'.gen
          rw [e, hoi] at eg2; cases eg2; rw [ci] at cg2; simp at cg2
      have Lne : ∀ c o, s3.heap.get? c = some o → (∀ es ep, o.data ≠ .dict es ep) → L ≠ c := fun c o eo hd e => by
        rcases hst with ⟨_, _, wn⟩ | ⟨it', _, gat'⟩
        · obtain ⟨m2, hns2, _⟩ := wn.ns
          obtain ⟨o2, es2, ep2, e2, d2, _⟩ := hns2
          rw [e, eo] at e2; cases e2; exact hd _ _ d2
        · obtain ⟨m2, hns2⟩ := gat'.at_.ns
          obtain ⟨o2, es2, ep2, e2, d2, _⟩ := hns2
          rw [e, eo] at e2; cases e2; exact hd _ _ d2
      have Lz := Lne z _ hz3 (fun es ep => by simp)
      have LTO := Lne TO _ hTO3 (fun es ep => by simp)
      have Li2 := Lne i2 _ hoi (fun es ep => by rw [di]; simp)
      have ka := keep45 a _ az aTO ai2 eg
      have kL := keep45 L _ Lz LTO Li2 eL
      have kit := keep45 it _ zit.symm TOit.symm i2it.symm eit
      have kTI := keep45 TI _ TIz TITO TIi2 hTI4
      have kTO : h''.get? TO = _ := (sb.2 _ TOz).trans hTO'
      obtain ⟨oi5, hoi5, ci5, di5⟩ := hi'
      have ki2 := (sb.2 _ i2z).trans hoi5
      have gat5 : GAt X.prog X.w X.A.in1 a it L q gn qs (i + 1) { s4 with heap := h'' } := by
        obtain ⟨gs', g1, g2, g3, g4⟩ := gat.gs
        exact ⟨⟨gs', g1, g2, g3, g4⟩, ⟨⟨m, hns.at' fun o e => keep45 L o Lz LTO Li2 e⟩, ⟨oit, kit, cit, dit⟩⟩, ⟨og, nm, qn, ka, cg, dg, sg⟩⟩
      have fobj : ∀ b ∈ [a, L, it, z, TI, TO, i2], ∃ o, h''.get? b = some o ∧ ∀ v, o.data ≠ .cell v := fun b hb => by
        simp only [List.mem_cons, List.not_mem_nil, or_false] at hb
        rcases hb with rfl | rfl | rfl | rfl | rfl | rfl | rfl
        · exact ⟨_, ka, fun v q => by rw [dg] at q; cases q⟩
        · exact ⟨_, kL, fun v q => by rw [dL] at q; cases q⟩
        · exact ⟨_, kit, fun v q => by rw [dit] at q; cases q⟩
        · exact ⟨_, hz'', fun v q => by cases q⟩
        · exact ⟨_, kTI, fun v q => by cases q⟩
        · exact ⟨_, kTO, fun v q => by cases q⟩
        · exact ⟨_, ki2, fun v q => by rw [di5] at q; cases q⟩
      have flt : ∀ b ∈ [a, L, it, z, TI, TO, i2], b ≠ s4.heap.objs.size := fun b hb => by
        simp only [List.mem_cons, List.not_mem_nil, or_false] at hb
        rcases hb with rfl | rfl | rfl | rfl | rfl | rfl | rfl
        · exact Nat.ne_of_lt (Heap.lt_size eg)
        · exact Nat.ne_of_lt (Heap.lt_size eL)
        · exact Nat.ne_of_lt (Heap.lt_size eit)
        · exact Nat.ne_of_lt ltz
        · exact Nat.ne_of_lt (Heap.lt_size hTI4)
        · exact Nat.ne_of_lt ltTO
        · exact Nat.ne_of_lt lti2
      have fp7 : ∀ b ∈ [a, L, it, z, TI, TO, i2], FpOk X pins H3 b := fun b hb => by
        simp only [List.mem_cons, List.not_mem_nil, or_false] at hb
        rcases hb with rfl | rfl | rfl | rfl | rfl | rfl | rfl
        · exact fp3 _ (by simp)
        · exact fp3 _ (by simp)
        · exact fit
        · exact fp3 _ (by simp)
        · exact fp3 _ (by simp)
        · exact fp3 _ (by simp)
        · exact fp3 _ (by simp)
      have stat : ∀ {H' : Hp}, (∀ b ∈ [a, L, it, z, TI, TO, i2], H' b = none) → ∀ b ∈ [a, L, it, z, TI, TO, i2], FpOk X pins H' b := fun {H'} hn b hb => ⟨hn b hb, (fp7 b hb).2⟩
      have I5' := I5.pinned (stat fun b hb => by rw [upd_ne (flt b hb)]; exact (fp7 b hb).1) fobj
      refine wpAny_passesOwn hp (thn (still_step hxg I5.bare (hg.run _ (sting { s4 with heap := h'' }) σ3 _ (V.ref s4.heap.objs.size) (.ref s4.heap.objs.size) _ (inv_sting I5') rfl (step i x y1 σ3 H3 s4.heap.objs.size hx hy1 w3 hp0))) fun _ s6 ⟨z6, ⟨σ6, H6, J6, q6⟩, e6, k6⟩ => ?_)
      have I6 := inv_un I5.bare J6
      rw [← e6] at I6
      refine wpAny_passesOwn hp (thn (still_step hxg I6.bare (hb.run _ (sting s6) σ6 H6 _ (inv_sting I6) q6)) fun f s7 ⟨z7, q7, e7, k7⟩ => ?_)
      have back : ∀ {σ7 : St} {H7 : Hp}, Inv X (pins ++ pinsAt [a, L, it, z, TI, TO, i2] h'') σ7 H7 z7 → Inv X (pins ++ pinsAt [a, L, it, z, TI, TO, i2] h'') σ7 H7 s7 := fun J => by
        have := inv_un I6.bare J
        rw [← e7] at this; exact this
      have again : ∀ {σ7 : St} {H7 : Hp}, Inv X (pins ++ pinsAt [a, L, it, z, TI, TO, i2] h'') σ7 H7 s7 → W (i + 1) σ7 H7 → ∃ m, m < qs.length - i ∧ ∃ j σ' H', m = qs.length - j ∧ j ≤ qs.length ∧ Inv X pins σ' H' s7 ∧ W j σ' H' ∧ (∀ b ∈ [a, L, z, TI, TO, i2], FpOk X pins H' b) ∧
          (IsZip s7.heap z TI TO .none ∧ IsPair s7.heap TI (.ref a) (.ref i2) ∧ (∃ x y, IsPair s7.heap TO x y) ∧ s7.heap.IsListIter i2 l j) ∧ GStN X C fl a L gn o q qs pins j H' s7 := fun {σ7 H7} I7 w7 => by
        have pk : ∀ b ∈ [a, L, it, z, TI, TO, i2], H7 b = none ∧ ∀ o, h''.get? b = some o → s7.heap.get? b = some o := fun b hb => by
          obtain ⟨o, e, d⟩ := fobj b hb
          obtain ⟨p1, p2, _⟩ := I7.pin (b, o) (List.mem_append_right _ (List.mem_append_right _ (mem_pinsAt hb e)))
          exact ⟨p2, fun o' e' => by rw [e] at e'; cases e'; exact p1⟩
        have fk := stat fun b hb => (pk b hb).1
        refine ⟨qs.length - (i + 1), by omega, i + 1, σ7, H7, rfl, hlt, I7.unpinned, w7, fun b hb => fk b ?_, ⟨(pk z (by simp)).2 _ hz'', (pk TI (by simp)).2 _ kTI, ⟨v, u, (pk TO (by simp)).2 _ kTO⟩, ⟨oi5, (pk i2 (by simp)).2 _ ki2, ci5, di5⟩⟩, .inr ⟨it, fk it (by simp), gat_on gat5 (k6.trans k7) fun b hb => (pk b ?_).2⟩⟩
        · simp only [List.mem_cons, List.not_mem_nil, or_false] at hb ⊢
          rcases hb with z | z | z | z | z | z <;> simp [z]
        · simp only [List.mem_cons, List.not_mem_nil, or_false] at hb ⊢
          rcases hb with z | z | z <;> simp [z]
      cases f with
      | next => obtain ⟨σ7, H7, J7, n7⟩ := q7; exact again (back J7) n7
      | cont => obtain ⟨σ7, H7, J7, n7⟩ := q7; exact again (back J7) n7
      | brk => obtain ⟨σ7, H7, J7, n7⟩ := q7; exact ⟨σ7, H7, (back J7).unpinned, n7⟩
      | ret v => obtain ⟨x7, σ7, H7, J7, r7, n7⟩ := q7; exact ⟨x7, σ7, H7, (back J7).unpinned, r7, n7⟩
  · have en : i = qs.length := by omega
    refine pyNext_zipN hz3 fun E1 hE1 => zipN_end (N := fun s2 => Inv X pins σ3 H3 s2) hz3 hTI3 hTO3 (fun h₁ Q1 E1 hz1 k1 cont => ?_) fun s2 h' e hN hk he => hE1 e _ he ?_
    · obtain ⟨I3', hst'⟩ := moved h₁ k1
      refine gst_nextN hh hd c nf I3' mL hi hq3 hst' (fun v x it s4 hx => ?_) fun s4 e hn I4 he kp => ?_
      · rw [List.getElem?_eq_none (by omega)] at hx; cases hx
      · exact cont e s4 I4 he fun o eo => by rw [hz1] at eo; rw [← eo]; exact kp z _ hz1 (by simp) (fun es ep => by simp)
    · have I6 : Inv X pins σ3 H3 { s2 with heap := h' } := hN.turnedL (t' := s2.toks) (ch := [z]) (fun b o hb e => hk b o (by simpa using hb) e) (fun b hb => by rw [List.mem_singleton.mp hb]; exact mz)
      exact wpAny_execs_nil ⟨σ3, H3, I6, done σ3 H3 (en ▸ w3)⟩
end
section
variable {X : Cx} {T : List (Addr × Str)} {C : Addr} {m fl : Str} {ta : TEp} {pos : Pos}
/-- the items of the tuple in a field, beside those of the list in slot j -/
def iWalkZP (C : Addr) (m fl : Str) (ta : TEp) (j : Nat) : TIp := fun η P => ta η fun x η1 => ∃ fs qs ys, x = .ins C fs ∧ fs.lookup m = none ∧ fs.lookup fl = some (.tup qs) ∧ qs.length < 1000 ∧ η1[j]? = some (.va (.lst ys)) ∧ qs.length ≤ ys.length ∧ P (zipP qs ys) η1
theorem zipP_len {xs ys : List PV} (h : xs.length ≤ ys.length) : (zipP xs ys).length = xs.length := by
  unfold zipP
  rw [List.length_zipWith]; omega
theorem zipP_at {xs ys : List PV} {i : Nat} {x y : PV} (hx : xs[i]? = some x) (hy : ys[i]? = some y) : (zipP xs ys)[i]? = some (.tup [x, y]) := by
  unfold zipP
  rw [List.getElem?_zipWith, hx, hy]
theorem z_forWZ {tg : Expr} {it : Expr} {body : List Stmt} {g : TGp} {tb : TSp} {j : Nat}
    (pf : PS X (.For tg it body [] pos) (tForWZ X.K (tWk X.K C m fl (up X.K T ta)) j (upG X.K T g) (upS X.K T tb))) : PS X (.For tg it body [] pos) (upS X.K T (tForP (iWalkZP C m fl ta j) g tb)) := by
  refine PS.weak pf fun D σ H q => ?_
  obtain ⟨F, η, D', R, h, k1, k2, k3, k4⟩ := q
  refine ⟨F, η, _, R, h, fun x η1 v H1 h1 e1 R1 r1 => ?_⟩
  obtain ⟨fs, qs, ys, rfl, l1, l2, hl, hj, hle, Inv, i0, step, fin⟩ := h1
  obtain ⟨a, dx, ws, rfl, na, q', rr⟩ := r1.ins_
  obtain ⟨w, hw, rw'⟩ := (rr.look fl).1 _ l2
  obtain ⟨b, vs, rfl, hq, rv⟩ := rw'.tup_
  obtain ⟨wl, hwl, rl⟩ := R1.va j _ hj
  obtain ⟨bl, us, rfl, nl, hql, rvl⟩ := rl.lst_
  refine ⟨a, dx, ws, b, vs, rfl, q', (rr.look m).2 l1, hw, hq.sq, by rw [rv.len]; exact hl, bl, us, hwl, SqL.of hql, by rw [rv.len, rvl.len]; exact hle, fun i σ2 H2 => ∃ η2, Inv i η2 ∧ Rs X.K T F σ2 η2 H2 ∧ Ext σ η1 σ2 η2 H1 H2, ⟨η1, i0, R1, .refl⟩, fun i σ2 H2 ⟨η2, _, R2, e2⟩ => ⟨(hq.car (e2.car (F := F))).sq, SqL.of ((e2.car (F := F)) _ _ nl hql nofun).1⟩, fun i v u σ2 H2 p hv hu ⟨η2, pi, R2, e2⟩ hp => ?_, fun σ2 H2 ⟨η2, p, R2, e2⟩ => ?_⟩
  · obtain ⟨y, hy, ry⟩ := rv.get' hv
    obtain ⟨y2, hy2, ry2⟩ := rvl.get' hu
    have s3 := Same.new (o := .tup [v, u]) hp
    have R3 := R2.same s3
    have e3 : Ext σ η1 σ2 η2 H1 (upd H2 p (.tup [v, u])) := e2.trans (.same s3)
    refine ⟨F, η2, .tup [y, y2], _, R3, rep_newT R2.trO hp (.cons (ry.car e2.car) (.cons (ry2.car e2.car) .nil)), step i _ η2 (zipP_at hy hy2) pi, fun η4 σ4 H4 h4 e4 R4 => ?_⟩
    have E := e3.trans e4
    exact ⟨F, η4, _, R4, h4, fun η5 σ5 H5 h5 e5 R5 => ⟨η5, h5, R5, E.trans e5⟩, fun η5 σ5 H5 h5 e5 R5 => k1 _ _ _ h5 ((e1.trans E).trans e5) R5, fun η5 σ5 H5 h5 e5 R5 => ⟨η5, h5, R5, E.trans e5⟩, fun x η5 σ5 v H5 h5 e5 R5 r5 => k4 _ _ _ _ _ h5 ((e1.trans E).trans e5) R5 r5⟩
  · rw [rv.len, ← zipP_len hle] at p
    exact k1 _ _ _ (fin η2 p) (e1.trans e2) R2
end
end Z
set_option Elab.async false
set_option linter.all false
set_option maxRecDepth 100000
/-! divmod by a wide divisor; x is True, x is False -/
namespace Z
open PySem PySem.Spec L2
open PyProof.Rows hiding St
section
variable {X : Cx}
theorem call_divmodW : CallR X (.builtin "divmod") (fun xs H Q => ∃ i j, xs = [.int i, .int j] ∧ CDivW i j ∧ ∀ p, H p = none → Q (.ref p) (upd H p (.tup [.int (i / j), .int (i % j)]))) := by
  intro pins s σ H xs us Q I r h
  obtain ⟨i, j, rfl, ⟨h1, h2⟩, q⟩ := h
  obtain ⟨u, w', rfl, ⟨t, rfl⟩, ⟨t', rfl⟩⟩ := vals2 r
  refine divmod_int (by omega) ?_ (.inl (PyProof.noPylong_of_log2 h2))
  rw [Int.fdiv_eq_ediv_of_nonneg i (by omega), Int.fmod_eq_emod_of_nonneg i (by omega)]
  have hn : H s.heap.objs.size = none := I.hok.fresh (Nat.le_refl _)
  refine ⟨.ref s.heap.objs.size, _, ?_, rfl, q _ hn⟩
  refine I.laid (fun b o e => Heap.get?_push_of_some _ e) (Nat.le_refl _) ⟨by simp only [List.length_cons, List.length_nil]; rw [sizeLine_eq]; decide, [.int (i / j) s.toks, .int (i % j) (s.toks + 1)], .cons ⟨_, rfl⟩ (.cons ⟨_, rfl⟩ .nil), ?_⟩
  exact ⟨_, Heap.get?_push_size s.heap rfl, rfl, 0, rfl⟩
def rDivmodW : R1p := fun ps P => match ps with
  | [.int i, .int j] => CDivW i j ∧ P (.tup [.int (i / j), .int (i % j)])
  | _ => False
theorem zc_divmodW : CallR X (.builtin "divmod") (r1 X.K rDivmodW) := by
  refine CallR.weak (call_divmodW (X := X)) fun xs H Q h => ?_
  obtain ⟨O, ps, P, tr, hx, h, k⟩ := h
  unfold rDivmodW at h
  split at h
  · obtain ⟨v, w, rfl, r, r'⟩ := hx.two
    cases r.int_; cases r'.int_
    exact ⟨_, _, rfl, h.1, fun p hp => k.newT h.2 tr (.cons rep_int (.cons rep_int .nil)) hp⟩
  · cases h
theorem q_divmodW {i j : Int} {P : PV → Prop} (c : CDivW i j) (h : P (.tup [.int (i / j), .int (i % j)])) : rDivmodW [.int i, .int j] P := ⟨c, h⟩
theorem cdivW {i j : Int} (h : 0 < j) (h' : j < 10 ^ 40) : CDivW i j := wide_div (b := 200) h (by
  have : (10 : Int) ^ 40 < 2 ^ 200 := by decide
  omega) (by decide) (by decide)
def rIsT (neg : Bool) : R2p := fun x y P => match x, y with
  | .bl a, .bl b => P (.bl (if neg then !decide (a = b) else decide (a = b)))
  | _, _ => False
theorem zo_isT : OpR X (compareOp .Is) (r2 X.K (rIsT false)) := by
  refine OpR.weak (op_isBl (X := X)) fun x y H Q h => ?_
  obtain ⟨O, px, py, P, tr, hx, hy, h, k⟩ := h
  unfold rIsT at h
  split at h
  · exact ⟨_, _, hx.bl_, hy.bl_, k.bl (by simpa using h)⟩
  · cases h
theorem zo_isnotT : OpR X (compareOp .IsNot) (r2 X.K (rIsT true)) := by
  refine OpR.weak (op_notBl (X := X)) fun x y H Q h => ?_
  obtain ⟨O, px, py, P, tr, hx, hy, h, k⟩ := h
  unfold rIsT at h
  split at h
  · exact ⟨_, _, hx.bl_, hy.bl_, k.bl (by simpa using h)⟩
  · cases h
theorem q_isnotT {a b : Bool} {P : PV → Prop} (h : P (.bl (!decide (a = b)))) : rIsT true (.bl a) (.bl b) P := h
theorem q_isT {a b : Bool} {P : PV → Prop} (h : P (.bl (decide (a = b)))) : rIsT false (.bl a) (.bl b) P := h
end
end Z
set_option Elab.async false
set_option linter.all false
set_option maxRecDepth 100000
namespace Z
open PySem PySem.Spec L2
open PyProof.Rows hiding St
/-! ### values of the program -/
def Kn (K : PySem.W.Frag) (x : PV) : Prop := (tyN x).isSome = true ∨ ∃ C fs, x = .ins C fs ∧ ClsT K C
def isInt : PV → Bool
  | .int _ => true
  | _ => false
def isStn : PV → Bool
  | .int i => decide (0 ≤ i)
  | _ => false
def isLat (s : Int) : PV → Bool
  | .int i => decide (s < i)
  | _ => false
def abc : Str := ("abcdefghijklmnopqrstuvwxyz" : Str)
def isNm : PV → Bool
  | .str z => decide (1 ≤ z.length) && (decide (z.length ≤ 8) && z.cps.toList.all fun c => decide (c ∈ abc.cps.toList))
  | _ => false
abbrev Trip := Str × Int × Int
def rowP (r : Trip) : PV := .tup [.str r.1, .int r.2.1, .int r.2.2]
def rowsP (rs : List Trip) : PV := .tup (rs.map rowP)
structure Rw (rs : List Trip) : Prop where
  len : rs.length ≤ 24
  each : ∀ r ∈ rs, isNm (.str r.1) = true ∧ 0 ≤ r.2.1 ∧ r.2.1 < r.2.2
  asc : rs.Pairwise fun a b => a.1.cps.toList < b.1.cps.toList
def queueP (rs : List Trip) : PV := .tup ((rs.map rowP).mergeSort (PySem.W.dataLe false (keyP 1 0)))
def lineF (n : Int) (rs : List Trip) : List (Str × PV) := [(("seat_count" : Str), .int n), (("rows" : Str), rowsP rs), (("queue" : Str), queueP rs)]
def lineP (C : Addr) (n : Int) (rs : List Trip) : PV := .ins C (lineF n rs)
/-! ### promises -/
abbrev PrP := PySem.W.Frag → Addr → SpP
def sp_is_integer : PrP := fun K _ args P => ∃ x, args = [x] ∧ Kn K x ∧ P (.bl (isInt x))
def sp_is_station : PrP := fun K _ args P => ∃ x, args = [x] ∧ Kn K x ∧ P (.bl (isStn x))
def sp_is_later : PrP := fun K _ args P => ∃ x s, args = [x, .int s] ∧ Kn K x ∧ P (.bl (isLat s x))
def sp_is_trip_name : PrP := fun K _ args P => ∃ x, args = [x] ∧ Kn K x ∧ (∀ z, x = .str z → z.length ≤ sizeLine) ∧ P (.bl (isNm x))
def sp_is_trip : PrP := fun K _ args P => ∃ r : Trip, args = [rowP r] ∧ r.1.length ≤ sizeLine ∧ P (.bl (isNm (.str r.1) && (decide (0 ≤ r.2.1) && decide (r.2.1 < r.2.2))))
def sp_check_seats : PrP := fun K _ args P => ∃ n : Int, args = [.int n] ∧ 1 ≤ n ∧ n ≤ 20 ∧ P .non
def sp_valid_beginning : PrP := fun K _ args P => ∃ rs, args = [rowsP rs] ∧ Rw rs ∧ P (.int rs.length)
def sp_Line_init : PySem.W.Frag → Addr → SpR := fun K C o args P => ∃ n rs, o = .o C [] ∧ args = [.int n, rowsP rs] ∧ 1 ≤ n ∧ n ≤ 20 ∧ Rw rs ∧ P .non (.o C (lineF n rs))
def sp_Line_trips : PrP := fun K C args P => ∃ n rs, args = [lineP C n rs] ∧ P (rowsP rs)
def sp_law_cell : PrP := fun K _ args P => ∃ ns k, args = [.scr ns, .int k] ∧ 0 ≤ k ∧ k < 100 ∧ ∀ c, P (.int c)
def sp_law_pool : PySem.W.Frag → Addr → SpF := fun K _ args P => ∃ c, args = [.int c] ∧ ∀ s d, 0 ≤ s → s < 1000000007 → 0 ≤ d → P [.int s, .int d, .int 0]
def Pool (o : Ow) : Prop := ∃ s d c, o = .l [.int s, .int d, .int c] ∧ 0 ≤ s ∧ s < 1000000007 ∧ 0 ≤ d
abbrev PrR := PySem.W.Frag → Addr → SpR
def sp_law_draw : PrR := fun K _ o args P => ∃ m : Int, Pool o ∧ args = [.int m] ∧ 0 < m ∧ m < 10 ^ 40 ∧ ∀ o' (k : Int), Pool o' → 0 ≤ k → k < m → P (.int k) o'
def Nms (ws : List Str) : Prop := (∀ w ∈ ws, isNm (.str w) = true) ∧ ws.Nodup
def sp_law_words : PrR := fun K _ o args P => ∃ m : Int, Pool o ∧ args = [.int m] ∧ 0 ≤ m ∧ m ≤ 24 ∧ ∀ o' ws, Pool o' → ws.length = m.toNat → Nms ws → P (.lst (ws.map .str)) o'
def sp_law_far : PrR := fun K _ o args P => ∃ h : Int, Pool o ∧ args = [.int h] ∧ 0 ≤ h ∧ h ≤ 30 ∧ ∀ o' (xs : List Int), Pool o' → xs.length = (h + 1).toNat → xs.Pairwise (· < ·) → (∀ x ∈ xs, 0 ≤ x ∧ x < 10 ^ 40) → P (.lst (xs.map .int)) o'
def sp_law_rides : PrR := fun K _ o args P => ∃ ws h, Pool o ∧ args = [.lst (ws.map .str), .int h] ∧ Nms ws ∧ ws.length ≤ 24 ∧ 1 ≤ h ∧ h ≤ 30 ∧ ∀ o' rs, Pool o' → Rw rs → rs.length = ws.length → (∀ r ∈ rs, r.1 ∈ ws ∧ r.2.2 < 10 ^ 40) → P (rowsP rs) o'
/-! ### readings -/
def ts_is_integer (K : PySem.W.Frag) (CLine : Addr) : TSp := tRetP (tAndVP (tCBP (rIsI K) (tConsP (tVarP 0) (tConsP (tConP (.raw (.ty "int"))) (tNilP)))) (tNotVP (tCBP (rIsI K) (tConsP (tVarP 0) (tConsP (tConP (.raw (.ty "bool"))) (tNilP))))))
def ts_is_station (K : PySem.W.Frag) (CLine : Addr) : TSp := tRetP (tAndVP (tCallP (sp_is_integer K CLine) [] (tConsP (tVarP 0) (tNilP))) (tOpP rGe (tVarP 0) (tConP (.int 0))))
def ts_is_later (K : PySem.W.Frag) (CLine : Addr) : TSp := tRetP (tAndVP (tCallP (sp_is_integer K CLine) [] (tConsP (tVarP 0) (tNilP))) (tOpP rGt (tVarP 0) (tVarP 1)))
def ts_is_trip_name (K : PySem.W.Frag) (CLine : Addr) : TSp := tSeqP (tIfSP (tOrP (tNotP (tBlP (tCBP (rIsI K) (tConsP (tVarP 0) (tConsP (tConP (.raw (.ty "str"))) (tNilP)))))) (tNotP (tBlP (tChainP rLe rLe (tConP (.int 1)) (tCBP rLen (tConsP (tVarP 0) (tNilP))) (tConP (.int 8)))))) (tRetP (tConP (.bl false))) (tNextP)) (tRetP (tCBP rAllP (tConsP (tValP (tLcP (iStrP (tVarP 0)) (gNameP 1) (tYesP) (tOpP (rInS false) (tVarP 1) (tConP (.str ("abcdefghijklmnopqrstuvwxyz" : Str)))) [1])) (tNilP))))
def ts_is_trip (K : PySem.W.Frag) (CLine : Addr) : TSp := tSeqP (tIfSP (tOrP (tNotP (tBlP (tCBP (rIsI K) (tConsP (tVarP 0) (tConsP (tConP (.raw (.ty "tuple"))) (tNilP)))))) (tBlP (tOpP (rEqP true) (tCBP rLen (tConsP (tVarP 0) (tNilP))) (tConP (.int 3))))) (tRetP (tConP (.bl false))) (tNextP)) (tSeqP (tAsgP (tVarP 0) (gTupP 3 (gConsP (gNameP 1) (gConsP (gNameP 2) (gConsP (gNameP 3) (gNilP)))))) (tRetP (tAndVP (tCallP (sp_is_trip_name K CLine) [] (tConsP (tVarP 1) (tNilP))) (tAndVP (tCallP (sp_is_station K CLine) [] (tConsP (tVarP 2) (tNilP))) (tCallP (sp_is_later K CLine) [] (tConsP (tVarP 3) (tConsP (tVarP 2) (tNilP))))))))
def ts_check_seats (K : PySem.W.Frag) (CLine : Addr) : TSp := tIfSP (tOrP (tNotP (tBlP (tCallP (sp_is_integer K CLine) [] (tConsP (tVarP 0) (tNilP))))) (tNotP (tBlP (tChainP rLe rLe (tConP (.int 1)) (tVarP 0) (tConP (.int 20)))))) (tNevP) (tNextP)
def ts_valid_beginning (K : PySem.W.Frag) (CLine : Addr) : TSp := tSeqP (tSetP 1 (tConP (.str ("" : Str)))) (tSeqP (tForP (iEnumP (tVarP 0)) (gTupP 2 (gConsP (gNameP 2) (gConsP (gNameP 3) (gNilP)))) (tSeqP (tIfSP (tOrP (tBlP (tOpP (rEqP false) (tVarP 2) (tConP (.int 24)))) (tOrP (tNotP (tBlP (tCallP (sp_is_trip K CLine) [] (tConsP (tVarP 3) (tNilP))))) (tBlP (tOpP rLe (tOpP rIxP (tVarP 3) (tConP (.int 0))) (tVarP 1))))) (tRetP (tVarP 2)) (tNextP)) (tSetP 1 (tOpP rIxP (tVarP 3) (tConP (.int 0)))))) (tRetP (tCBP rLen (tConsP (tVarP 0) (tNilP)))))
def ts_Line_trips (K : PySem.W.Frag) (CLine : Addr) : TSp := tRetP (tFldP CLine ("rows" : Str) (tVarP 0))
def ts_Line_init (K : PySem.W.Frag) (CLine : Addr) : TSp := tSeqP (tDropP (tCallP (sp_check_seats K CLine) [] (tConsP (tVarP 1) (tNilP)))) (tSeqP (tIfSP (tNotP (tBlP (tCBP (rIsI K) (tConsP (tVarP 2) (tConsP (tConP (.raw (.ty "tuple"))) (tNilP)))))) (tNevP) (tNextP)) (tSeqP (tSetP 3 (tCallP (sp_valid_beginning K CLine) [] (tConsP (tVarP 2) (tNilP)))) (tSeqP (tIfSP (tBlP (tOpP rLt (tVarP 3) (tCBP rLen (tConsP (tVarP 2) (tNilP))))) (tNevP) (tNextP)) (tSeqP (tFldSP CLine 0 ("seat_count" : Str) (tVarP 1)) (tSeqP (tFldSP CLine 0 ("rows" : Str) (tVarP 2)) (tFldSP CLine 0 ("queue" : Str) (tCBP rTuple (tConsP (tSortLP 1 0 (tVarP 2)) (tNilP)))))))))
def ts_law_cell (K : PySem.W.Frag) (CLine : Addr) : TSp := tSeqP (tIfSP (tBlP (tOpP rLt (tVarP 1) (tCBP rLen (tConsP (tVarP 0) (tNilP))))) (tRetP (tOpP rIxP (tVarP 0) (tVarP 1))) (tNextP)) (tSeqP (tSetP 2 (tOpP rMod (tOpP rMulA (tConP (.int 50021)) (tOpP rAdd (tOpP rAdd (tOpP rMulA (tVarP 1) (tVarP 1)) (tOpP rMulA (tConP (.int 7)) (tVarP 1))) (tConP (.int 3)))) (tConP (.int 1000000007)))) (tSeqP (tForP (iListP (tSliceP (tVarP 0) (tNoPartP) (tPartP (tConP (.int 3))))) (gNameP 3) (tSetP 2 (tOpP rMod (tOpP rAdd (tOpP rMulA (tVarP 2) (tConP (.int 30011))) (tVarP 3)) (tConP (.int 1000000007))))) (tRetP (tVarP 2))))
def ts_law_pool (K : PySem.W.Frag) (CLine : Addr) : TFp := tSeqFP (tSetP 1 (tConP (.int 0))) (tSeqFP (tIfSP (tOrP (tBlP (tOpP rLt (tVarP 0) (tConP (.int 0)))) (tBlP (tOpP rGe (tVarP 0) (tOpP rPow (tConP (.int 10)) (tConP (.int 18)))))) (tSetP 1 (tCBP rAbs (tConsP (tVarP 0) (tNilP)))) (tNextP)) (tLstFP (tConsP (tOpP rMod (tVarP 0) (tConP (.int 1000000007))) (tConsP (tVarP 1) (tConsP (tConP (.int 0)) (tNilP))))))
def ts_law_draw (K : PySem.W.Frag) (CLine : Addr) : TSp := tSeqP (tAsgP (tOpP rAdd (tIxOP 0 (tConP (.int 2))) (tConP (.int 1))) (gSubP 0 (tConP (.int 2)))) (tSeqP (tSetP 2 (tIxOP 0 (tConP (.int 0)))) (tSeqP (tAsgP (tOpP rMod (tOpP rAdd (tOpP rAdd (tOpP rMulA (tVarP 2) (tOpP rAdd (tOpP rMod (tVarP 2) (tConP (.int 46007))) (tConP (.int 20011)))) (tOpP rMulA (tConP (.int 60013)) (tIxOP 0 (tConP (.int 2))))) (tConP (.int 5))) (tConP (.int 1000000007))) (gSubP 0 (tConP (.int 0)))) (tSeqP (tIfSP (tBlP (tOpP rGt (tIxOP 0 (tConP (.int 1))) (tConP (.int 0)))) (tSeqP (tAsgP (tCBP rDivmodW (tConsP (tIxOP 0 (tConP (.int 1))) (tConsP (tVarP 1) (tNilP)))) (gTupP 2 (gConsP (gSubP 0 (tConP (.int 1))) (gConsP (gNameP 3) (gNilP))))) (tRetP (tVarP 3))) (tNextP)) (tRetP (tOpP rMod (tOpP rDiv (tIxOP 0 (tConP (.int 0))) (tConP (.int 32))) (tVarP 1))))))
def ts_law_words (K : PySem.W.Frag) (CLine : Addr) : TSp := tSeqP (tSetP 2 (tConP (.str ("abcdefghijklmnopqrstuvwxyz" : Str)))) (tSeqP (tSetP 3 (tLstP (tConsP (tConP (.str ("book" : Str))) (tConsP (tConP (.str ("cancel" : Str))) (tConsP (tConP (.str ("exchange" : Str))) (tConsP (tConP (.str ("shift" : Str))) (tConsP (tConP (.str ("seats" : Str))) (tConsP (tConP (.str ("undo" : Str))) (tConsP (tConP (.str ("show" : Str))) (tConsP (tConP (.str ("line" : Str))) (tConsP (tConP (.str ("count" : Str))) (tConsP (tConP (.str ("number" : Str))) (tConsP (tConP (.str ("load" : Str))) (tConsP (tConP (.str ("trip" : Str))) (tNilP))))))))))))))) (tSeqP (tSetP 3 (tOpP rAdd (tVarP 3) (tLstP (tConsP (tConP (.str ("none" : Str))) (tConsP (tConP (.str ("cut" : Str))) (tConsP (tConP (.str ("overfull" : Str))) (tConsP (tConP (.str ("a" : Str))) (tConsP (tConP (.str ("b" : Str))) (tConsP (tConP (.str ("x" : Str))) (tConsP (tConP (.str ("plan" : Str))) (tConsP (tConP (.str ("route" : Str))) (tConsP (tConP (.str ("fixed" : Str))) (tConsP (tConP (.str ("full" : Str))) (tConsP (tConP (.str ("goal" : Str))) (tConsP (tConP (.str ("name" : Str))) (tNilP)))))))))))))))) (tSeqP (tAsgP (tTupP (tConsP (tCallRP 0 (sp_law_draw K CLine) (tConsP (tConP (.int 3)) (tNilP))) (tConsP (tCallRP 0 (sp_law_draw K CLine) (tConsP (tConP (.int 24)) (tNilP))) (tNilP)))) (gTupP 2 (gConsP (gNameP 4) (gConsP (gNameP 5) (gNilP))))) (tSeqP (tIfSP (tBlP (tOpP (rEqP false) (tVarP 4) (tConP (.int 0)))) (tRetP (tValP (tLcP (iRng1P (tVarP 1)) (gNameP 8) (tYesP) (tOpP rIxP (tVarP 3) (tOpP rMod (tOpP rAdd (tVarP 5) (tOpP rMulA (tConP (.int 5)) (tVarP 8))) (tConP (.int 24)))) [8]))) (tNextP)) (tSeqP (tIfSP (tBlP (tOpP (rEqP false) (tVarP 4) (tConP (.int 1)))) (tRetP (tValP (tLcP (iRng1P (tVarP 1)) (gNameP 8) (tYesP) (tOpP rMulA (tOpP rIxP (tVarP 2) (tOpP rMod (tOpP rAdd (tVarP 5) (tOpP rMulA (tConP (.int 7)) (tVarP 8))) (tConP (.int 26)))) (tOpP rAdd (tConP (.int 1)) (tOpP rMod (tVarP 8) (tConP (.int 8))))) [8]))) (tNextP)) (tSeqP (tSetP 6 (tJoinP (tConP (.str ("" : Str))) (tValP (tLcP (iRng1P (tCallRP 0 (sp_law_draw K CLine) (tConsP (tConP (.int 8)) (tNilP)))) (gNameP 8) (tYesP) (tOpP rIxP (tVarP 2) (tCallRP 0 (sp_law_draw K CLine) (tConsP (tConP (.int 26)) (tNilP)))) [8])))) (tSeqP (tSetP 7 (tCallRP 0 (sp_law_draw K CLine) (tConsP (tOpP rAdd (tCBP rLen (tConsP (tVarP 6) (tNilP))) (tConP (.int 1))) (tNilP)))) (tRetP (tValP (tLcP (iRng1P (tVarP 1)) (gNameP 8) (tYesP) (tOpP rAdd (tOpP rAdd (tSliceP (tVarP 6) (tNoPartP) (tPartP (tVarP 7))) (tOpP rIxP (tVarP 2) (tOpP rMod (tOpP rAdd (tVarP 5) (tOpP rMulA (tConP (.int 5)) (tVarP 8))) (tConP (.int 26))))) (tSliceP (tVarP 6) (tPartP (tVarP 7)) (tNoPartP))) [8]))))))))))
def ts_law_far (K : PySem.W.Frag) (CLine : Addr) : TSp := tSeqP (tParP [2, 3, 4] (tConsF (tLstFP (tNilP)) (tConsV (tCallRP 0 (sp_law_draw K CLine) (tConsP (tConP (.int 3)) (tNilP))) (tConsV (tCallRP 0 (sp_law_draw K CLine) (tConsP (tConP (.int 3)) (tNilP))) (tNilAr))))) (tSeqP (tForP (iRng1P (tOpP rAdd (tVarP 1) (tConP (.int 1)))) (gNameP 5) (tSeqP (tAppP 2 (tIfP (tBlP (tOpP rGt (tVarP 4) (tConP (.int 0)))) (tVarP 5) (tVarP 3))) (tSetP 3 (tOpP rAdd (tOpP rAdd (tVarP 3) (tConP (.int 1))) (tOpP rIxP (tLstP (tConsP (tConP (.int 0)) (tConsP (tCallRP 0 (sp_law_draw K CLine) (tConsP (tConP (.int 9)) (tNilP))) (tConsP (tOpP rPow (tConP (.int 10)) (tConP (.int 29))) (tNilP))))) (tCallRP 0 (sp_law_draw K CLine) (tConsP (tConP (.int 3)) (tNilP)))))))) (tRetP (tVarP 2)))
def ts_law_rides (K : PySem.W.Frag) (CLine : Addr) : TSp := tSeqP (tParP [3, 4, 5] (tConsV (tCallRP 0 (sp_law_far K CLine) (tConsP (tVarP 2) (tNilP))) (tConsF (tLstFP (tNilP)) (tConsV (tConP (.int 0)) (tNilAr))))) (tSeqP (tForP (iListP (tVarP 1)) (gNameP 6) (tSeqP (tSetP 7 (tCallRP 0 (sp_law_draw K CLine) (tConsP (tConP (.int 4)) (tNilP)))) (tSeqP (tSetP 8 (tIfP (tAndP (tBlP (tOpP (rEqP false) (tVarP 7) (tConP (.int 0)))) (tBlP (tOpP rLt (tVarP 5) (tVarP 2)))) (tVarP 5) (tCallRP 0 (sp_law_draw K CLine) (tConsP (tVarP 2) (tNilP))))) (tSeqP (tSetP 5 (tOpP rAdd (tOpP rAdd (tVarP 8) (tConP (.int 1))) (tCallRP 0 (sp_law_draw K CLine) (tConsP (tIfP (tBlP (tOpP rGt (tOpP rSub (tVarP 2) (tVarP 8)) (tConP (.int 1)))) (tOpP rIxP (tLstP (tConsP (tConP (.int 1)) (tConsP (tConP (.int 2)) (tConsP (tOpP rSub (tVarP 2) (tVarP 8)) (tConsP (tOpP rSub (tVarP 2) (tVarP 8)) (tNilP)))))) (tVarP 7)) (tConP (.int 1))) (tNilP))))) (tSeqP (tSetP 5 (tCBP rMin2 (tConsP (tVarP 5) (tConsP (tVarP 2) (tNilP))))) (tAppP 4 (tTupP (tConsP (tVarP 6) (tConsP (tOpP rIxP (tVarP 3) (tVarP 8)) (tConsP (tOpP rIxP (tVarP 3) (tVarP 5)) (tNilP))))))))))) (tRetP (tCBP rTuple (tConsP (tCBP rSortD (tConsP (tVarP 4) (tNilP))) (tNilP)))))
/-! lengths -/
section
variable {K : PySem.W.Frag} {C : Addr} {args : List PV} {P : PV → Prop} {PR : PV → Ow → Prop} {PF : List PV → Prop} {o : Ow}
theorem len_is_integer (h : sp_is_integer K C args P) : args.length = 1 := by
  unfold sp_is_integer at h
  first | (obtain ⟨_, rfl, _⟩ := h; rfl) | (obtain ⟨_, _, rfl, _⟩ := h; rfl)
theorem len_is_station (h : sp_is_station K C args P) : args.length = 1 := by
  unfold sp_is_station at h
  first | (obtain ⟨_, rfl, _⟩ := h; rfl) | (obtain ⟨_, _, rfl, _⟩ := h; rfl)
theorem len_is_later (h : sp_is_later K C args P) : args.length = 2 := by
  unfold sp_is_later at h
  first | (obtain ⟨_, rfl, _⟩ := h; rfl) | (obtain ⟨_, _, rfl, _⟩ := h; rfl)
theorem len_is_trip_name (h : sp_is_trip_name K C args P) : args.length = 1 := by
  unfold sp_is_trip_name at h
  first | (obtain ⟨_, rfl, _⟩ := h; rfl) | (obtain ⟨_, _, rfl, _⟩ := h; rfl)
theorem len_is_trip (h : sp_is_trip K C args P) : args.length = 1 := by
  unfold sp_is_trip at h
  first | (obtain ⟨_, rfl, _⟩ := h; rfl) | (obtain ⟨_, _, rfl, _⟩ := h; rfl)
theorem len_check_seats (h : sp_check_seats K C args P) : args.length = 1 := by
  unfold sp_check_seats at h
  first | (obtain ⟨_, rfl, _⟩ := h; rfl) | (obtain ⟨_, _, rfl, _⟩ := h; rfl)
theorem len_valid_beginning (h : sp_valid_beginning K C args P) : args.length = 1 := by
  unfold sp_valid_beginning at h
  first | (obtain ⟨_, rfl, _⟩ := h; rfl) | (obtain ⟨_, _, rfl, _⟩ := h; rfl)
theorem len_Line_trips (h : sp_Line_trips K C args P) : args.length = 1 := by
  unfold sp_Line_trips at h
  first | (obtain ⟨_, rfl, _⟩ := h; rfl) | (obtain ⟨_, _, rfl, _⟩ := h; rfl)
theorem len_law_cell (h : sp_law_cell K C args P) : args.length = 2 := by
  unfold sp_law_cell at h
  first | (obtain ⟨_, rfl, _⟩ := h; rfl) | (obtain ⟨_, _, rfl, _⟩ := h; rfl)
theorem len_law_pool (h : sp_law_pool K C args PF) : args.length = 1 := by
  unfold sp_law_pool at h
  first | (obtain ⟨_, rfl, _⟩ := h; rfl) | (obtain ⟨_, _, rfl, _⟩ := h; rfl)
theorem len_law_draw (h : sp_law_draw K C o args PR) : args.length = 1 := by
  unfold sp_law_draw at h
  first | (obtain ⟨_, _, rfl, _⟩ := h; rfl) | (obtain ⟨_, _, _, rfl, _⟩ := h; rfl)
theorem len_law_words (h : sp_law_words K C o args PR) : args.length = 1 := by
  unfold sp_law_words at h
  first | (obtain ⟨_, _, rfl, _⟩ := h; rfl) | (obtain ⟨_, _, _, rfl, _⟩ := h; rfl)
theorem len_law_far (h : sp_law_far K C o args PR) : args.length = 1 := by
  unfold sp_law_far at h
  first | (obtain ⟨_, _, rfl, _⟩ := h; rfl) | (obtain ⟨_, _, _, rfl, _⟩ := h; rfl)
theorem len_law_rides (h : sp_law_rides K C o args PR) : args.length = 2 := by
  unfold sp_law_rides at h
  first | (obtain ⟨_, _, rfl, _⟩ := h; rfl) | (obtain ⟨_, _, _, rfl, _⟩ := h; rfl)
theorem len_Line_init (h : sp_Line_init K C o args PR) : args.length = 2 := by
  obtain ⟨_, _, _, rfl, _⟩ := h; rfl
end
end Z
set_option Elab.async false
set_option linter.all false
set_option maxRecDepth 100000
namespace Z
open PySem PySem.Spec L2
open PyProof.Rows hiding St
section
variable {K : PySem.W.Frag} {C : Addr} {args : List PV} {P : PV → Prop} {PR : PV → Ow → Prop} {PF : List PV → Prop} {o : Ow}
theorem rIsI_ty {x : PV} {n : String} {Q : PV → Prop} : rIsI K [x, .raw (.ty n)] Q = (match tyN x with
    | some t => ∃ b, kitB t n = some b ∧ Q (.bl b)
    | none => match x with
      | .ins C _ => ClsT K C ∧ n ∈ ["int", "bool", "str", "tuple", "list", "dict"] ∧ Q (.bl false)
      | _ => False) := rfl
/-- isinstance of a value that is known -/
theorem isi_ty {x : PV} {n : String} {Q : PV → Prop} (h : Kn K x) (hn : n ∈ ["int", "bool", "str", "tuple", "list", "dict"]) (q : ∀ b, (∀ t, tyN x = some t → kitB t n = some b) → (tyN x = none → b = false) → Q (.bl b)) : rIsI K [x, .raw (.ty n)] Q := by
  rw [rIsI_ty]
  split
  · rename_i t e
    have : ∃ b, kitB t n = some b := by
      have ht : t ∈ ["NoneType", "int", "bool", "str", "tuple", "list", "dict"] := by cases x <;> simp [tyN] at e <;> subst e <;> decide
      simp only [List.mem_cons, List.not_mem_nil, or_false] at hn ht
      rcases hn with rfl | rfl | rfl | rfl | rfl | rfl <;> rcases ht with rfl | rfl | rfl | rfl | rfl | rfl | rfl <;> first | exact ⟨true, by decide +kernel⟩ | exact ⟨false, by decide +kernel⟩
    obtain ⟨b, hb⟩ := this
    exact ⟨b, hb, q b (fun t' z => by cases e.symm.trans z; exact hb) fun z => by rw [z] at e; cases e⟩
  · rename_i e
    rcases h with h | ⟨D, fs, rfl, cl⟩
    · rw [e] at h; cases h
    · exact ⟨cl, hn, q false (fun t z => nomatch z) fun _ => rfl⟩
theorem isi_is {x : PV} {n : String} {f : PV → Bool} {Q : PV → Prop} (h : Kn K x) (hn : n ∈ ["int", "bool", "str", "tuple", "list", "dict"]) (hf : ∀ x t, tyN x = some t → kitB t n = some (f x)) (h0 : ∀ x, tyN x = none → f x = false) (q : Q (.bl (f x))) : rIsI K [x, .raw (.ty n)] Q := by
  refine isi_ty h hn fun b h1 h2 => ?_
  cases e : tyN x with
  | some t =>
    have := (h1 t e).symm.trans (hf x t e)
    cases this
    exact q
  | none => rw [h2 e, ← h0 x e]; exact q
def isIb : PV → Bool
  | .int _ => true
  | .bl _ => true
  | _ => false
def isBl : PV → Bool
  | .bl _ => true
  | _ => false
def isSt : PV → Bool
  | .str _ => true
  | _ => false
def isTu : PV → Bool
  | .tup _ => true
  | _ => false
theorem isi_int {x : PV} {Q : PV → Prop} (h : Kn K x) (q : Q (.bl (isIb x))) : rIsI K [x, .raw (.ty "int")] Q :=
  isi_is h (by decide) (fun x t e => by cases x <;> simp [tyN] at e <;> subst e <;> first | (show kitB _ _ = some true; decide +kernel) | (show kitB _ _ = some false; decide +kernel)) (fun x e => by cases x <;> simp [tyN] at e <;> rfl) q
theorem isi_bool {x : PV} {Q : PV → Prop} (h : Kn K x) (q : Q (.bl (isBl x))) : rIsI K [x, .raw (.ty "bool")] Q :=
  isi_is h (by decide) (fun x t e => by cases x <;> simp [tyN] at e <;> subst e <;> first | (show kitB _ _ = some true; decide +kernel) | (show kitB _ _ = some false; decide +kernel)) (fun x e => by cases x <;> simp [tyN] at e <;> rfl) q
theorem isi_str {x : PV} {Q : PV → Prop} (h : Kn K x) (q : Q (.bl (isSt x))) : rIsI K [x, .raw (.ty "str")] Q :=
  isi_is h (by decide) (fun x t e => by cases x <;> simp [tyN] at e <;> subst e <;> first | (show kitB _ _ = some true; decide +kernel) | (show kitB _ _ = some false; decide +kernel)) (fun x e => by cases x <;> simp [tyN] at e <;> rfl) q
theorem isi_tuple {x : PV} {Q : PV → Prop} (h : Kn K x) (q : Q (.bl (isTu x))) : rIsI K [x, .raw (.ty "tuple")] Q :=
  isi_is h (by decide) (fun x t e => by cases x <;> simp [tyN] at e <;> subst e <;> first | (show kitB _ _ = some true; decide +kernel) | (show kitB _ _ = some false; decide +kernel)) (fun x e => by cases x <;> simp [tyN] at e <;> rfl) q
theorem rd_is_integer (h : sp_is_integer K C args P) : ts_is_integer K C { nx := fun _ => P .non, rt := fun x _ => P x } (startP 1 args) := by
  obtain ⟨x, rfl, hk, hp⟩ := h
  have e : startP 1 [x] = [.va x] := rfl
  simp only [ts_is_integer, e, tLcP, tForP, iStrP, iListP, iTupP, iRng1P, iRng2P, iEnumP, wipeP, tAppP, tJoinP, tSeqP, tRetP, tRetNP, tIfSP, tNextP, tNevP, tSetP, tSetFP, tDropP, tAsgP, gNameP, gNilP, gConsP, gTupP, tAndVP, tNotVP, tOrVP, tCBP, tConsP, tNilP, tVarP, tConP, tBlP, tOrP, tAndP, tNotP, tOpP, tChainP, tCallP, tCallFP, tTupP, tLstP, tLstFP, tValP, tIfP, tNegP, tSliceP, tNoPartP, tPartP, tSeqFP, tYesP, frz, List.getElem?_cons_zero, List.getElem?_cons_succ, List.set_cons_zero, List.set_cons_succ, List.append_nil, List.length_cons, List.length_nil, Nat.zero_add]
  refine isi_int hk ?_
  cases x <;> first | exact isi_bool hk hp | exact hp
theorem rd_is_station (h : sp_is_station K C args P) : ts_is_station K C { nx := fun _ => P .non, rt := fun x _ => P x } (startP 1 args) := by
  obtain ⟨x, rfl, hk, hp⟩ := h
  have e : startP 1 [x] = [.va x] := rfl
  simp only [ts_is_station, e, tLcP, tForP, iStrP, iListP, iTupP, iRng1P, iRng2P, iEnumP, wipeP, tAppP, tJoinP, tSeqP, tRetP, tRetNP, tIfSP, tNextP, tNevP, tSetP, tSetFP, tDropP, tAsgP, gNameP, gNilP, gConsP, gTupP, tAndVP, tNotVP, tOrVP, tCBP, tConsP, tNilP, tVarP, tConP, tBlP, tOrP, tAndP, tNotP, tOpP, tChainP, tCallP, tCallFP, tTupP, tLstP, tLstFP, tValP, tIfP, tNegP, tSliceP, tNoPartP, tPartP, tSeqFP, tYesP, frz, List.getElem?_cons_zero, List.getElem?_cons_succ, List.set_cons_zero, List.set_cons_succ, List.append_nil, List.length_cons, List.length_nil, Nat.zero_add]
  refine ⟨x, rfl, hk, ?_⟩
  cases x <;> exact hp
theorem rd_is_later (h : sp_is_later K C args P) : ts_is_later K C { nx := fun _ => P .non, rt := fun x _ => P x } (startP 2 args) := by
  obtain ⟨x, s, rfl, hk, hp⟩ := h
  have e : startP 2 [x, .int s] = [.va x, .va (.int s)] := rfl
  simp only [ts_is_later, e, tLcP, tForP, iStrP, iListP, iTupP, iRng1P, iRng2P, iEnumP, wipeP, tAppP, tJoinP, tSeqP, tRetP, tRetNP, tIfSP, tNextP, tNevP, tSetP, tSetFP, tDropP, tAsgP, gNameP, gNilP, gConsP, gTupP, tAndVP, tNotVP, tOrVP, tCBP, tConsP, tNilP, tVarP, tConP, tBlP, tOrP, tAndP, tNotP, tOpP, tChainP, tCallP, tCallFP, tTupP, tLstP, tLstFP, tValP, tIfP, tNegP, tSliceP, tNoPartP, tPartP, tSeqFP, tYesP, frz, List.getElem?_cons_zero, List.getElem?_cons_succ, List.set_cons_zero, List.set_cons_succ, List.append_nil, List.length_cons, List.length_nil, Nat.zero_add]
  refine ⟨x, rfl, hk, ?_⟩
  cases x <;> exact hp
theorem blsOf_map {α : Type} (f : α → Bool) : ∀ xs : List α, blsOf (xs.map fun c => PV.bl (f c)) = some (xs.map f)
  | [] => rfl
  | x :: xs => by rw [List.map_cons, blsOf, blsOf_map f xs]; rfl
theorem rd_is_trip_name (h : sp_is_trip_name K C args P) : ts_is_trip_name K C { nx := fun _ => P .non, rt := fun x _ => P x } (startP 2 args) := by
  obtain ⟨x, rfl, hk, hz, hp⟩ := h
  have e : startP 2 [x] = [.va x, .no] := rfl
  simp only [ts_is_trip_name, e, tLcP, tForP, iStrP, iListP, iTupP, iRng1P, iRng2P, iEnumP, wipeP, tAppP, tJoinP, tSeqP, tRetP, tRetNP, tIfSP, tNextP, tNevP, tSetP, tSetFP, tDropP, tAsgP, gNameP, gNilP, gConsP, gTupP, tAndVP, tNotVP, tOrVP, tCBP, tConsP, tNilP, tVarP, tConP, tBlP, tOrP, tAndP, tNotP, tOpP, tChainP, tCallP, tCallFP, tTupP, tLstP, tLstFP, tValP, tIfP, tNegP, tSliceP, tNoPartP, tPartP, tSeqFP, tYesP, frz, List.getElem?_cons_zero, List.getElem?_cons_succ, List.set_cons_zero, List.set_cons_succ, List.append_nil, List.length_cons, List.length_nil, Nat.zero_add]
  refine isi_str hk ?_
  cases x <;> try exact hp
  rename_i z
  have hz := hz z rfl
  simp only [isSt, rLe, rLen, rAllP, Bool.not_true, Bool.false_eq_true, if_false, tLcP, tForP, iStrP, iListP, iTupP, iRng1P, iRng2P, iEnumP, wipeP, tAppP, tJoinP, tSeqP, tRetP, tRetNP, tIfSP, tNextP, tNevP, tSetP, tSetFP, tDropP, tAsgP, gNameP, gNilP, gConsP, gTupP, tAndVP, tNotVP, tOrVP, tCBP, tConsP, tNilP, tVarP, tConP, tBlP, tOrP, tAndP, tNotP, tOpP, tChainP, tCallP, tCallFP, tTupP, tLstP, tLstFP, tValP, tIfP, tNegP, tSliceP, tNoPartP, tPartP, tSeqFP, tYesP, frz, List.getElem?_cons_zero, List.getElem?_cons_succ, List.set_cons_zero, List.set_cons_succ, List.append_nil, List.length_cons, List.length_nil, Nat.zero_add]
  refine ⟨hz, _, rfl, ?_⟩
  by_cases h1 : (1 : Int) ≤ z.length
  · rw [decide_eq_true h1]
    by_cases h2 : (z.length : Int) ≤ 8
    · simp only [decide_eq_true h2, if_true, Bool.not_true, Bool.false_eq_true, if_false, tLcP, tForP, iStrP, iListP, iTupP, iRng1P, iRng2P, iEnumP, wipeP, tAppP, tJoinP, tSeqP, tRetP, tRetNP, tIfSP, tNextP, tNevP, tSetP, tSetFP, tDropP, tAsgP, gNameP, gNilP, gConsP, gTupP, tAndVP, tNotVP, tOrVP, tCBP, tConsP, tNilP, tVarP, tConP, tBlP, tOrP, tAndP, tNotP, tOpP, tChainP, tCallP, tCallFP, tTupP, tLstP, tLstFP, tValP, tIfP, tNegP, tSliceP, tNoPartP, tPartP, tSeqFP, tYesP, frz, List.getElem?_cons_zero, List.getElem?_cons_succ, List.set_cons_zero, List.set_cons_succ, List.append_nil, List.length_cons, List.length_nil, Nat.zero_add]
      refine ⟨fun i acc η => acc = (z.cps.toList.take i).map (fun c => .bl (decide (c ∈ abc.cps.toList))) ∧ η = [.va (.str z), .no], ⟨rfl, rfl⟩, ?_, ?_⟩
      · rintro i y acc η hi ⟨rfl, rfl⟩
        rw [List.getElem?_map] at hi
        cases q : z.cps.toList[i]? with
        | none => rw [q] at hi; cases hi
        | some c =>
          rw [q] at hi; cases hi
          have hil : i < z.cps.toList.length := (List.getElem?_eq_some_iff.mp q).1
          simp only [rInS, if_true, tLcP, tForP, iStrP, iListP, iTupP, iRng1P, iRng2P, iEnumP, wipeP, tAppP, tJoinP, tSeqP, tRetP, tRetNP, tIfSP, tNextP, tNevP, tSetP, tSetFP, tDropP, tAsgP, gNameP, gNilP, gConsP, gTupP, tAndVP, tNotVP, tOrVP, tCBP, tConsP, tNilP, tVarP, tConP, tBlP, tOrP, tAndP, tNotP, tOpP, tChainP, tCallP, tCallFP, tTupP, tLstP, tLstFP, tValP, tIfP, tNegP, tSliceP, tNoPartP, tPartP, tSeqFP, tYesP, frz, List.getElem?_cons_zero, List.getElem?_cons_succ, List.set_cons_zero, List.set_cons_succ, List.append_nil, List.length_cons, List.length_nil, Nat.zero_add]
          refine ⟨c, rfl, ?_, ?_, trivial⟩
          · rw [List.length_map, List.length_take]
            have : sizeLine > 100 := by decide
            have : z.length = z.cps.toList.length := by simp [Str.length]
            omega
          · simp only [Bool.false_eq_true, if_false]
            rw [List.take_succ, q]
            simp [abc]
      · rintro acc η ⟨rfl, rfl⟩
        rw [List.length_map, List.take_length]
        refine ⟨_, blsOf_map _ _, ?_⟩
        have : (isNm (.str z)) = ((z.cps.toList.map fun c => decide (c ∈ abc.cps.toList)).all id) := by
          have h1' : 1 ≤ z.length := by omega
          have h2' : z.length ≤ 8 := by omega
          simp [isNm, h1', h2']
        rw [← this]
        exact hp
    · simp only [decide_eq_false h2, if_true, Bool.not_false]
      have : isNm (.str z) = false := by
        have h2' : ¬ z.length ≤ 8 := by omega
        simp [isNm, h2']
      rw [this] at hp
      exact hp
  · simp only [decide_eq_false h1, Bool.false_eq_true, if_false, if_true, Bool.not_false]
    have : isNm (.str z) = false := by
      have h2' : ¬ 1 ≤ z.length := by omega
      simp only [isNm, decide_eq_false h2', Bool.false_and]
    rw [this] at hp
    exact hp
theorem Kn.i {i : Int} : Kn K (.int i) := .inl rfl
theorem Kn.s {i : Str} : Kn K (.str i) := .inl rfl
theorem Kn.t {xs : List PV} : Kn K (.tup xs) := .inl rfl
theorem rd_is_trip (h : sp_is_trip K C args P) : ts_is_trip K C { nx := fun _ => P .non, rt := fun x _ => P x } (startP 4 args) := by
  obtain ⟨r, rfl, hz, hp⟩ := h
  have e : startP 4 [rowP r] = [.va (rowP r), .no, .no, .no] := rfl
  simp only [ts_is_trip, e, tLcP, tForP, iStrP, iListP, iTupP, iRng1P, iRng2P, iEnumP, wipeP, tAppP, tJoinP, tSeqP, tRetP, tRetNP, tIfSP, tNextP, tNevP, tSetP, tSetFP, tDropP, tAsgP, gNameP, gNilP, gConsP, gTupP, tAndVP, tNotVP, tOrVP, tCBP, tConsP, tNilP, tVarP, tConP, tBlP, tOrP, tAndP, tNotP, tOpP, tChainP, tCallP, tCallFP, tTupP, tLstP, tLstFP, tValP, tIfP, tNegP, tSliceP, tNoPartP, tPartP, tSeqFP, tYesP, frz, List.getElem?_cons_zero, List.getElem?_cons_succ, List.set_cons_zero, List.set_cons_succ, List.append_nil, List.length_cons, List.length_nil, Nat.zero_add]
  refine isi_tuple .t ?_
  simp only [isTu, rowP, rLen, Bool.not_true, Bool.false_eq_true, if_false, tLcP, tForP, iStrP, iListP, iTupP, iRng1P, iRng2P, iEnumP, wipeP, tAppP, tJoinP, tSeqP, tRetP, tRetNP, tIfSP, tNextP, tNevP, tSetP, tSetFP, tDropP, tAsgP, gNameP, gNilP, gConsP, gTupP, tAndVP, tNotVP, tOrVP, tCBP, tConsP, tNilP, tVarP, tConP, tBlP, tOrP, tAndP, tNotP, tOpP, tChainP, tCallP, tCallFP, tTupP, tLstP, tLstFP, tValP, tIfP, tNegP, tSliceP, tNoPartP, tPartP, tSeqFP, tYesP, frz, List.getElem?_cons_zero, List.getElem?_cons_succ, List.set_cons_zero, List.set_cons_succ, List.append_nil, List.length_cons, List.length_nil, Nat.zero_add]
  refine ⟨.int 3, .int 3, rfl, rfl, rfl, rfl, ?_⟩
  have q : (if true = true then !PyData.eqv (.int 3) (.int 3) else PyData.eqv (.int 3) (.int 3)) = false := by decide +kernel
  simp only [q, Bool.false_eq_true, if_false, tLcP, tForP, iStrP, iListP, iTupP, iRng1P, iRng2P, iEnumP, wipeP, tAppP, tJoinP, tSeqP, tRetP, tRetNP, tIfSP, tNextP, tNevP, tSetP, tSetFP, tDropP, tAsgP, gNameP, gNilP, gConsP, gTupP, tAndVP, tNotVP, tOrVP, tCBP, tConsP, tNilP, tVarP, tConP, tBlP, tOrP, tAndP, tNotP, tOpP, tChainP, tCallP, tCallFP, tTupP, tLstP, tLstFP, tValP, tIfP, tNegP, tSliceP, tNoPartP, tPartP, tSeqFP, tYesP, frz, List.getElem?_cons_zero, List.getElem?_cons_succ, List.set_cons_zero, List.set_cons_succ, List.append_nil, List.length_cons, List.length_nil, Nat.zero_add]
  refine ⟨trivial, trivial, _, rfl, .s, fun z e => by cases e; exact hz, ?_⟩
  cases q : isNm (.str r.1) with
  | false => rw [q] at hp; exact hp
  | true =>
    rw [q] at hp
    refine ⟨_, rfl, .i, ?_⟩
    by_cases h1 : 0 ≤ r.2.1
    · have h1' : isStn (.int r.2.1) = true := decide_eq_true h1
      rw [h1']
      rw [decide_eq_true h1] at hp
      exact ⟨_, _, rfl, .i, hp⟩
    · have h1' : isStn (.int r.2.1) = false := decide_eq_false h1
      rw [h1']
      rw [decide_eq_false h1] at hp
      exact hp
theorem rd_check_seats (h : sp_check_seats K C args P) : ts_check_seats K C { nx := fun _ => P .non, rt := fun x _ => P x } (startP 1 args) := by
  obtain ⟨n, rfl, h1, h2, hp⟩ := h
  have e : startP 1 [.int n] = [.va (.int n)] := rfl
  simp only [ts_check_seats, e, tLcP, tForP, iStrP, iListP, iTupP, iRng1P, iRng2P, iEnumP, wipeP, tAppP, tJoinP, tSeqP, tRetP, tRetNP, tIfSP, tNextP, tNevP, tSetP, tSetFP, tDropP, tAsgP, gNameP, gNilP, gConsP, gTupP, tAndVP, tNotVP, tOrVP, tCBP, tConsP, tNilP, tVarP, tConP, tBlP, tOrP, tAndP, tNotP, tOpP, tChainP, tCallP, tCallFP, tTupP, tLstP, tLstFP, tValP, tIfP, tNegP, tSliceP, tNoPartP, tPartP, tSeqFP, tYesP, frz, List.getElem?_cons_zero, List.getElem?_cons_succ, List.set_cons_zero, List.set_cons_succ, List.append_nil, List.length_cons, List.length_nil, Nat.zero_add]
  refine ⟨_, rfl, .i, ?_⟩
  simp only [isInt, rLe, Bool.not_true, Bool.false_eq_true, if_false, tLcP, tForP, iStrP, iListP, iTupP, iRng1P, iRng2P, iEnumP, wipeP, tAppP, tJoinP, tSeqP, tRetP, tRetNP, tIfSP, tNextP, tNevP, tSetP, tSetFP, tDropP, tAsgP, gNameP, gNilP, gConsP, gTupP, tAndVP, tNotVP, tOrVP, tCBP, tConsP, tNilP, tVarP, tConP, tBlP, tOrP, tAndP, tNotP, tOpP, tChainP, tCallP, tCallFP, tTupP, tLstP, tLstFP, tValP, tIfP, tNegP, tSliceP, tNoPartP, tPartP, tSeqFP, tYesP, frz, List.getElem?_cons_zero, List.getElem?_cons_succ, List.set_cons_zero, List.set_cons_succ, List.append_nil, List.length_cons, List.length_nil, Nat.zero_add]
  refine ⟨_, rfl, ?_⟩
  simp only [decide_eq_true h1, decide_eq_true h2, if_true, Bool.not_true, Bool.false_eq_true, if_false, tLcP, tForP, iStrP, iListP, iTupP, iRng1P, iRng2P, iEnumP, wipeP, tAppP, tJoinP, tSeqP, tRetP, tRetNP, tIfSP, tNextP, tNevP, tSetP, tSetFP, tDropP, tAsgP, gNameP, gNilP, gConsP, gTupP, tAndVP, tNotVP, tOrVP, tCBP, tConsP, tNilP, tVarP, tConP, tBlP, tOrP, tAndP, tNotP, tOpP, tChainP, tCallP, tCallFP, tTupP, tLstP, tLstFP, tValP, tIfP, tNegP, tSliceP, tNoPartP, tPartP, tSeqFP, tYesP, frz, List.getElem?_cons_zero, List.getElem?_cons_succ, List.set_cons_zero, List.set_cons_succ, List.append_nil, List.length_cons, List.length_nil, Nat.zero_add]
  exact hp
theorem rd_Line_trips (h : sp_Line_trips K C args P) : ts_Line_trips K C { nx := fun _ => P .non, rt := fun x _ => P x } (startP 1 args) := by
  obtain ⟨n, rs, rfl, hp⟩ := h
  exact ⟨rfl, _, rfl, hp⟩
end
end Z
set_option Elab.async false
set_option linter.all false
set_option maxRecDepth 100000
namespace Z
open PySem PySem.Spec L2
open PyProof.Rows hiding St
/-! ### the rules on values, as they are asked -/
section
variable {K : PySem.W.Frag} {P : PV → Prop} {i j : Int} {x y : PV} {xs ys : List PV} {a b : Str} {η : EP'} {Q : PV → EP' → Prop} {R : EP' → Prop} {n : Nat}
theorem q_add (h : P (.int (i + j))) : rAdd (.int i) (.int j) P := h
theorem q_addS (l : a.length + b.length ≤ sizeLine) (h : P (.str (a ++ b))) : rAdd (.str a) (.str b) P := ⟨l, h⟩
theorem q_addL (l : xs.length + ys.length ≤ sizeLine) (h : P (.lst (xs ++ ys))) : rAdd (.lst xs) (.lst ys) P := ⟨l, h⟩
theorem q_sub (h : P (.int (i - j))) : rSub (.int i) (.int j) P := h
theorem q_mul (c : CMul i j) (h : P (.int (i * j))) : rMulA (.int i) (.int j) P := .inl ⟨c, h⟩
theorem q_mulL (h1 : -(2 ^ 63) ≤ j) (h2 : j < 2 ^ 63) (l : xs.length * j.toNat ≤ sizeLine) (h : P (.lst (List.replicate j.toNat xs).flatten)) : rMulA (.lst xs) (.int j) P := .inl ⟨h1, h2, l, h⟩
theorem q_mulS (h1 : 1 ≤ j) (h2 : j ≤ 1000) (l : a.length ≤ 1000) (h : P (.str (strRep a j.toNat))) : rMulA (.str a) (.int j) P := .inr ⟨h1, h2, l, h⟩
theorem q_div (c : CDiv i j) (h : P (.int (i / j))) : rDiv (.int i) (.int j) P := ⟨c, h⟩
theorem q_mod (c : 0 < j) (h : P (.int (i % j))) : rMod (.int i) (.int j) P := ⟨c, h⟩
theorem q_pow (c : CPow i j) (h : P (.int (i ^ j.toNat))) : rPow (.int i) (.int j) P := ⟨c, h⟩
theorem q_divmod (c : CDiv i j) (h : P (.tup [.int (i / j), .int (i % j)])) : rDivmod [.int i, .int j] P := ⟨c, h⟩
theorem q_lt (h : P (.bl (decide (i < j)))) : rLt (.int i) (.int j) P := h
theorem q_gt (h : P (.bl (decide (j < i)))) : rGt (.int i) (.int j) P := h
theorem q_ge (h : P (.bl (decide (j ≤ i)))) : rGe (.int i) (.int j) P := h
theorem q_le (h : P (.bl (decide (i ≤ j)))) : rLe (.int i) (.int j) P := h
theorem q_leS (h : P (.bl (!decide (b.cps.toList < a.cps.toList)))) : rLe (.str a) (.str b) P := h
theorem beq_int : (i == j) = decide (i = j) := by by_cases h : i = j <;> simp [h]
theorem q_eq (h : P (.bl (decide (i = j)))) : rEqP false (.int i) (.int j) P := ⟨.int i, .int j, rfl, rfl, rfl, rfl, by
  have e : PyData.eqv (.int i) (.int j) = decide (i = j) := by rw [show PyData.eqv (.int i) (.int j) = (i == j) by simp [PyData.eqv]]; exact beq_int
  simpa [e] using h⟩
theorem q_ne (h : P (.bl (decide (i ≠ j)))) : rEqP true (.int i) (.int j) P := ⟨.int i, .int j, rfl, rfl, rfl, rfl, by
  have e : PyData.eqv (.int i) (.int j) = decide (i = j) := by rw [show PyData.eqv (.int i) (.int j) = (i == j) by simp [PyData.eqv]]; exact beq_int
  simpa [e] using h⟩
theorem q_eqS (sa : SeqAt.shaped (.str a) = true) (sb : SeqAt.shaped (.str b) = true) (h : P (.bl (decide (a = b)))) : rEqP false (.str a) (.str b) P := ⟨.str a, .str b, rfl, rfl, sa, sb, by
  have e : PyData.eqv (.str a) (.str b) = decide (a = b) := by
    rw [show PyData.eqv (.str a) (.str b) = (a == b) by simp [PyData.eqv]]
    by_cases h : a = b <;> simp [h]
  simpa [e] using h⟩
theorem q_neS (sa : SeqAt.shaped (.str a) = true) (sb : SeqAt.shaped (.str b) = true) (h : P (.bl (decide (a ≠ b)))) : rEqP true (.str a) (.str b) P := ⟨.str a, .str b, rfl, rfl, sa, sb, by
  have e : PyData.eqv (.str a) (.str b) = decide (a = b) := by
    rw [show PyData.eqv (.str a) (.str b) = (a == b) by simp [PyData.eqv]]
    by_cases h : a = b <;> simp [h]
  simpa [e] using h⟩
theorem q_inS {c : Nat} (h : P (.bl (decide (c ∈ b.cps.toList)))) : rInS false (.str ⟨#[c]⟩) (.str b) P := ⟨c, rfl, by simpa using h⟩
theorem q_lenS (l : a.length ≤ sizeLine) (h : P (.int a.length)) : rLen [.str a] P := ⟨l, h⟩
theorem q_len (h : P (.int xs.length)) : rLen [.lst xs] P := h
theorem q_lenT (h : P (.int xs.length)) : rLen [.tup xs] P := h
theorem q_lenC {ns : List Int} (h : P (.int ns.length)) : rLen [.scr ns] P := h
theorem q_ix (e : atI xs i = some x) (h : P x) : rIxP (.lst xs) (.int i) P := ⟨x, e, h⟩
theorem q_ixT (e : atI xs i = some x) (h : P x) : rIxP (.tup xs) (.int i) P := ⟨x, e, h⟩
theorem q_ixC {ns : List Int} (e : atI ns i = some j) (h : P (.int j)) : rIxP (.scr ns) (.int i) P := ⟨j, e, h⟩
theorem q_ixS {c : Nat} (l : a.length ≤ sizeLine) (e : atI a.cps.toList i = some c) (h : P (.str ⟨#[c]⟩)) : rIxP (.str a) (.int i) P := ⟨l, c, e, h⟩
theorem q_max (h : P (.int (if j > i then j else i))) : rMax2 [.int i, .int j] P := h
theorem q_min (h : P (.int (if j < i then j else i))) : rMin2 [.int i, .int j] P := h
theorem q_abs (h : P (.int (if i < 0 then -i else i))) : rAbs [.int i] P := h
theorem q_all {bs : List Bool} (e : blsOf xs = some bs) (h : P (.bl (bs.all id))) : rAllP [.lst xs] P := ⟨bs, e, h⟩
theorem q_ite {p : Prop} [Decidable p] {A B : Prop} (h1 : p → A) (h2 : ¬ p → B) : if decide p = true then A else B := by
  by_cases h : p
  · rw [if_pos (decide_eq_true h)]; exact h1 h
  · rw [if_neg (by simp [h])]; exact h2 h
theorem q_iteT {A B : Prop} (h : A) : if true = true then A else B := h
theorem q_iteF {A B : Prop} (h : B) : if false = true then A else B := h
theorem q_cmp {p : Prop} [Decidable p] {A B : Prop} (h1 : p → A) (h2 : ¬ p → B) : if (!decide p) = true then B else A := by
  by_cases h : p
  · rw [decide_eq_true h]; exact h1 h
  · rw [decide_eq_false h]; exact h2 h
theorem q_it {A B : Prop} [Decidable True] (h : A) : if True then A else B := by rw [if_pos trivial]; exact h
theorem q_if {A B : Prop} [Decidable False] (h : B) : if False then A else B := by rw [if_neg id]; exact h
/-- own[k], own[k] = .. at a written k -/
theorem q_ixO {s : Nat} (e : η[s]? = some (.ow (.l xs))) (e1 : atI xs i = some x) (h : Q x η) : tIxOP s (fun η P => P (.int i) η) η Q := by
  refine ⟨⟨_, e⟩, ?_⟩
  show (match η[s]? with
  | some (.ow (.l xs)) => ∃ kk v, PV.int i = .int kk ∧ atI xs kk = some v ∧ Q v η
  | _ => False)
  rw [e]
  exact ⟨i, x, rfl, e1, h⟩
theorem q_setO {s : Nat} (e : η[s]? = some (.ow (.l xs))) (e1 : ixN xs.length i = some n) (h : R (η.set s (.ow (.l (xs.set n x))))) : gSubP s (fun η P => P (.int i) η) x η R := by
  refine ⟨⟨_, e⟩, ?_⟩
  show (match η[s]? with
  | some (.ow (.l xs)) => ∃ kk j, PV.int i = .int kk ∧ ixN xs.length kk = some j ∧ R (η.set s (.ow (.l (xs.set j x))))
  | _ => False)
  rw [e]
  exact ⟨i, n, rfl, e1, h⟩
theorem q_draw {s : Nat} {o : Ow} {C : Addr} {m : Int} {ta : TAp} (e : η[s]? = some (.ow o)) (ha : ta = fun η P => P [.int m] η) (hp : Pool o) (h0 : 0 < m) (h1 : m < 10 ^ 40) (h : ∀ o' (k : Int), Pool o' → 0 ≤ k → k < m → Q (.int k) (η.set s (.ow o'))) : tCallRP s (sp_law_draw K C) ta η Q := by
  subst ha
  refine ⟨⟨_, e⟩, ?_⟩
  show (match η[s]? with
  | some (.ow o) => sp_law_draw K C o [.int m] fun z o' => Q z (η.set s (.ow o'))
  | _ => False)
  rw [e]
  exact ⟨m, hp, rfl, h0, h1, fun o' k p a b => h o' k p a b⟩
/-! the readings, step by step -/
variable {D : EndsP} {t u : TSp} {te ta tb : TEp} {tx : TAp} {tf : TFp} {s : Nat} {o : Ow} {r : R2p} {r1 : R1p} {tc td : TTp} {QA : List PV → EP' → Prop} {QB : Bool → EP' → Prop} {g : TGp} {ti : TIp}
theorem w_seq (h : t { D with nx := fun η' => u D η' } η) : tSeqP t u D η := h
theorem w_set (h : te η fun x η1 => D.nx (η1.set s (.va x))) : tSetP s te D η := h
theorem w_if (h : tc η fun b η1 => if b = true then t D η1 else u D η1) : tIfSP tc t u D η := h
theorem w_ret (h : te η D.rt) : tRetP te D η := h
theorem w_next (h : D.nx η) : tNextP D η := h
theorem w_asg (h : te η fun x η1 => g x η1 D.nx) : tAsgP te g D η := h
theorem w_con (h : Q x η) : tConP x η Q := h
theorem w_var (e : η[s]? = some (.va x)) (h : Q x η) : tVarP s η Q := by unfold tVarP; rw [e]; exact h
theorem w_varO (e : η[s]? = some (.ow o)) (h : Q (frz o) (η.set s (.va (frz o)))) : tVarP s η Q := by unfold tVarP; rw [e]; exact h
theorem w_op (h : ta η fun x η1 => tb η1 fun y η2 => r x y fun z => Q z η2) : tOpP r ta tb η Q := h
theorem w_cb (h : tx η fun xs η1 => r1 xs fun z => Q z η1) : tCBP r1 tx η Q := h
theorem w_nil (h : QA [] η) : tNilP η QA := h
theorem w_cons (h : te η fun x η1 => tx η1 fun xs η2 => QA (x :: xs) η2) : tConsP te tx η QA := h
theorem w_tup (h : tx η fun xs η1 => xs.length ≤ sizeLine ∧ Q (.tup xs) η1) : tTupP tx η Q := h
theorem w_lst (h : tx η fun xs η1 => xs.length ≤ sizeLine ∧ Q (.lst xs) η1) : tLstP tx η Q := h
theorem w_lstF (h : tx η fun xs η1 => xs.length ≤ sizeLine ∧ QA xs η1) : tLstFP tx η QA := h
theorem w_val (h : tf η fun xs η1 => Q (.lst xs) η1) : tValP tf η Q := h
theorem w_bl (h : te η fun x η1 => match x with | .bl b => QB b η1 | _ => False) : tBlP te η QB := h
theorem w_or (h : tc η fun c η1 => if c = true then QB true η1 else td η1 QB) : tOrP tc td η QB := h
theorem w_and (h : tc η fun c η1 => if c = true then td η1 QB else QB false η1) : tAndP tc td η QB := h
theorem w_not (h : tc η fun c η1 => QB (!c) η1) : tNotP tc η QB := h
theorem w_ife (h : tc η fun c η1 => if c = true then ta η1 Q else tb η1 Q) : tIfP tc ta tb η Q := h
theorem w_call {sp : SpP} {dps : List PV} (h : tx η fun args η1 => sp (args ++ dps) fun z => Q z η1) : tCallP sp dps tx η Q := h
theorem w_lc {tt : TTp} {vs : List Nat} (h : ti η fun xs η1 => ∃ Inv : Nat → List PV → EP' → Prop, Inv 0 [] (wipeP η1 vs) ∧
  (∀ i x acc η2, xs[i]? = some x → Inv i acc η2 → g x (wipeP η2 vs) fun η3 => tt η3 fun b η4 => if b = true then te η4 fun y η5 => acc.length < sizeLine ∧ Inv (i + 1) (acc ++ [y]) (wipeP η5 vs) else Inv (i + 1) acc (wipeP η4 vs)) ∧
  (∀ acc η2, Inv xs.length acc η2 → QA acc η2)) : tLcP ti g tt te vs η QA := h
theorem w_for (h : ti η fun xs η1 => ∃ Inv : Nat → EP' → Prop, Inv 0 η1 ∧
  (∀ i x η2, xs[i]? = some x → Inv i η2 → g x η2 fun η3 => t { D with nx := Inv (i + 1), ct := Inv (i + 1), bk := D.nx } η3) ∧ (∀ η2, Inv xs.length η2 → D.nx η2)) : tForP ti g t D η := h
theorem w_rng1 (h : te η fun x η1 => match x with
  | .int j => -(2 ^ 62) ≤ j ∧ j < 2 ^ 62 ∧ QA (rangeP 0 j.toNat) η1
  | _ => False) : iRng1P te η QA := h
theorem rangeP_get {lo : Int} {n i : Nat} {x : PV} (h : (rangeP lo n)[i]? = some x) : i < n ∧ x = .int (lo + i) := by
  unfold rangeP at h
  rw [List.getElem?_map] at h
  by_cases hi : i < n
  · rw [List.getElem?_range hi] at h
    cases h
    exact ⟨hi, rfl⟩
  · rw [List.getElem?_eq_none (by simpa using hi)] at h; cases h
theorem rangeP_len {lo : Int} {n : Nat} : (rangeP lo n).length = n := by simp [rangeP]
theorem sz1 {a : PV} : [a].length ≤ sizeLine := by show 1 ≤ sizeLine; decide
theorem sz2 {a b : PV} : [a, b].length ≤ sizeLine := by show 2 ≤ sizeLine; decide
theorem sz3 {a b c : PV} : [a, b, c].length ≤ sizeLine := by show 3 ≤ sizeLine; decide
theorem w_gname {R : EP' → Prop} {x : PV} {η : EP'} {s : Nat} (h : R (η.set s (.va x))) : gNameP s x η R := h
theorem w_yes {QB : Bool → EP' → Prop} {η : EP'} (h : QB true η) : tYesP η QB := h
theorem w_join {ta tb : TEp} {η : EP'} {Q : PV → EP' → Prop} (h : ta η fun x η1 => (∃ z, x = .str z) ∧ tb η1 fun y η2 => match x, y with
  | .str z, .lst xs => ∃ ys, strsOf xs = some ys ∧ (ys.map (·.length)).sum + ys.length * z.length ≤ 16777216 ∧ Q (.str (Txt.join z ys)) η2
  | _, _ => False) : tJoinP ta tb η Q := h
theorem w_slice {te : TEp} {tl th : TOp} {η : EP'} {Q : PV → EP' → Prop} (h : te η fun x η1 => tl η1 fun l η2 => th η2 fun u η3 => rSlP x l u fun z => Q z η3) : tSliceP te tl th η Q := h
theorem w_nop {η : EP'} {P : Option Int → EP' → Prop} (h : P none η) : tNoPartP η P := h
theorem w_part {te : TEp} {η : EP'} {P : Option Int → EP' → Prop} (h : te η fun x η1 => match x with
  | .int i => P (some i) η1
  | _ => False) : tPartP te η P := h
theorem q_slS {z : Str} {lo hi : Option Int} {P : PV → Prop} (l : z.length ≤ sizeLine) (h : P (.str (cutS z lo hi))) : rSlP (.str z) lo hi P := ⟨l, h⟩
theorem q_slL {xs : List PV} {lo hi : Option Int} {P : PV → Prop} (h : P (.lst (cutP xs lo hi))) : rSlP (.lst xs) lo hi P := h
def callM (s : Nat) (sr : SpR) (args : List PV) (η : EP') (Q : PV → EP' → Prop) : Prop := match η[s]? with
  | some (.ow o) => sr o args fun z o' => Q z (η.set s (.ow o'))
  | _ => False
theorem w_callR {s : Nat} {sr : SpR} {tx : TAp} {η : EP'} {Q : PV → EP' → Prop} {o : Ow} (e : η[s]? = some (.ow o)) (h : tx η fun args η1 => callM s sr args η1 Q) : tCallRP s sr tx η Q := ⟨⟨o, e⟩, h⟩
theorem q_callM {s : Nat} {sr : SpR} {args : List PV} {η : EP'} {Q : PV → EP' → Prop} {o : Ow} (e : η[s]? = some (.ow o)) (h : sr o args fun z o' => Q z (η.set s (.ow o'))) : callM s sr args η Q := by unfold callM; rw [e]; exact h
def tStrs : List Str → TAp
  | [] => tNilP
  | w :: ws => tConsP (tConP (.str w)) (tStrs ws)
theorem w_strs {QA : List PV → EP' → Prop} {η : EP'} : ∀ {ws : List Str}, QA (ws.map .str) η → tStrs ws η QA
  | [], h => h
  | w :: ws, h => w_strs (ws := ws) (QA := fun xs η2 => QA (.str w :: xs) η2) h
end
end Z
set_option Elab.async false
set_option linter.all false
set_option maxRecDepth 100000
namespace Z
open PySem PySem.Spec L2
open PyProof.Rows hiding St
section
variable {K : PySem.W.Frag} {C : Addr} {args : List PV} {P : PV → Prop} {PR : PV → Ow → Prop} {PF : List PV → Prop} {o : Ow}
theorem cmul_l {i j : Int} (h : 0 ≤ i) (h' : i < 1000000007) : CMul i j := .inl ⟨by omega, by omega⟩
theorem cmul_r {i j : Int} (h : 0 ≤ j) (h' : j < 1000000007) : CMul i j := .inr ⟨by omega, by omega⟩
theorem mod_lo {i : Int} : 0 ≤ i % 1000000007 := Int.emod_nonneg _ (by decide)
theorem mod_hi {i : Int} : i % 1000000007 < 1000000007 := Int.emod_lt_of_pos _ (by decide)
theorem rd_law_draw (h : sp_law_draw K C o args PR) : ts_law_draw K C { nx := fun η' => ∃ o', η'[0]? = some (Sl.ow o') ∧ PR .non o', rt := fun x η' => ∃ o', η'[0]? = some (Sl.ow o') ∧ PR x o' } (startR 4 o args) := by
  obtain ⟨m, ⟨s, d, c, rfl, h1, h2, h3⟩, rfl, m1, m2, hp⟩ := h
  have e : startR 4 (.l [.int s, .int d, .int c]) [.int m] = [.ow (.l [.int s, .int d, .int c]), .va (.int m), .no, .no] := rfl
  simp only [ts_law_draw, e, tLcP, tForP, iStrP, iListP, iTupP, iRng1P, iRng2P, iEnumP, wipeP, tAppP, tJoinP, tSeqP, tRetP, tRetNP, tIfSP, tNextP, tNevP, tSetP, tSetFP, tDropP, tAsgP, gNameP, gNilP, gConsP, gTupP, tAndVP, tNotVP, tOrVP, tCBP, tConsP, tNilP, tVarP, tConP, tBlP, tOrP, tAndP, tNotP, tOpP, tChainP, tCallP, tCallFP, tTupP, tLstP, tLstFP, tValP, tIfP, tNegP, tSliceP, tNoPartP, tPartP, tSeqFP, tYesP, frz, List.getElem?_cons_zero, List.getElem?_cons_succ, List.set_cons_zero, List.set_cons_succ, List.append_nil, List.length_cons, List.length_nil, Nat.zero_add]
  refine q_ixO rfl rfl (q_add (q_setO rfl rfl (q_ixO rfl rfl (q_mod (by decide) (q_add (q_mul (cmul_l h1 h2) ?_))))))
  refine q_ixO rfl rfl (q_mul (.inl ⟨by decide, by decide⟩) (q_add (q_add (q_mod (by decide) (q_setO rfl rfl ?_)))))
  refine q_ixO rfl rfl (q_gt (q_ite (fun hd => ?_) fun hd => ?_))
  · refine q_ixO rfl rfl (q_divmodW (cdivW m1 m2) ⟨rfl, q_setO rfl rfl ⟨rfl, _, rfl, ?_⟩⟩)
    exact hp _ _ ⟨_, _, _, rfl, mod_lo, mod_hi, Int.ediv_nonneg h3 (by omega)⟩ (Int.emod_nonneg _ (by omega)) (Int.emod_lt_of_pos _ m1)
  · refine q_ixO rfl rfl ?_
    refine q_div ⟨by decide, by decide⟩ ?_
    refine q_mod m1 ⟨_, rfl, ?_⟩
    exact hp _ _ ⟨_, _, _, rfl, mod_lo, mod_hi, h3⟩ (Int.emod_nonneg _ (by omega)) (Int.emod_lt_of_pos _ m1)
theorem rd_law_pool (h : sp_law_pool K C args PF) : ts_law_pool K C (startP 2 args) (fun xs _ => PF xs) := by
  obtain ⟨c, rfl, hp⟩ := h
  have e : startP 2 [.int c] = [.va (.int c), .no] := rfl
  simp only [ts_law_pool, e, tLcP, tForP, iStrP, iListP, iTupP, iRng1P, iRng2P, iEnumP, wipeP, tAppP, tJoinP, tSeqP, tRetP, tRetNP, tIfSP, tNextP, tNevP, tSetP, tSetFP, tDropP, tAsgP, gNameP, gNilP, gConsP, gTupP, tAndVP, tNotVP, tOrVP, tCBP, tConsP, tNilP, tVarP, tConP, tBlP, tOrP, tAndP, tNotP, tOpP, tChainP, tCallP, tCallFP, tTupP, tLstP, tLstFP, tValP, tIfP, tNegP, tSliceP, tNoPartP, tPartP, tSeqFP, tYesP, frz, List.getElem?_cons_zero, List.getElem?_cons_succ, List.set_cons_zero, List.set_cons_succ, List.append_nil, List.length_cons, List.length_nil, Nat.zero_add]
  have hz : 10 ≤ sizeLine := by decide
  have key : ∀ d : Int, 0 ≤ d → PF [.int (c % 1000000007), .int d, .int 0] := fun d hd => hp _ _ mod_lo mod_hi hd
  refine q_lt (q_ite (fun hc => ?_) fun hc => ?_)
  · refine q_it ?_
    refine q_abs ?_
    refine q_mod (by decide) ?_
    exact ⟨by omega, key _ (by split <;> omega)⟩
  · refine q_pow ⟨by decide, by decide, by decide⟩ ?_
    refine q_ge (q_ite (fun hd => ?_) fun hd => ?_)
    · refine q_abs ?_
      refine q_mod (by decide) ?_
      exact ⟨by omega, key _ (by split <;> omega)⟩
    · refine q_mod (by decide) ?_
      exact ⟨by omega, key 0 (by decide)⟩
theorem atI_in {α : Type} {xs : List α} {k : Int} (h0 : 0 ≤ k) (h1 : k < xs.length) : ∃ v, atI xs k = some v ∧ xs[k.toNat]? = some v := by
  have h : k.toNat < xs.length := by omega
  refine ⟨xs[k.toNat], ?_, by simp [h]⟩
  have := atI_nat (xs := xs) (j := k.toNat) (v := xs[k.toNat]) (by simp [h])
  rwa [Int.toNat_of_nonneg h0] at this
theorem rd_law_cell (h : sp_law_cell K C args P) : ts_law_cell K C { nx := fun _ => P .non, rt := fun x _ => P x } (startP 4 args) := by
  obtain ⟨ns, k, rfl, hk, hk', hp⟩ := h
  have e : startP 4 [.scr ns, .int k] = [.va (.scr ns), .va (.int k), .no, .no] := rfl
  simp only [ts_law_cell, e, tLcP, tForP, iStrP, iListP, iTupP, iRng1P, iRng2P, iEnumP, wipeP, tAppP, tJoinP, tSeqP, tRetP, tRetNP, tIfSP, tNextP, tNevP, tSetP, tSetFP, tDropP, tAsgP, gNameP, gNilP, gConsP, gTupP, tAndVP, tNotVP, tOrVP, tCBP, tConsP, tNilP, tVarP, tConP, tBlP, tOrP, tAndP, tNotP, tOpP, tChainP, tCallP, tCallFP, tTupP, tLstP, tLstFP, tValP, tIfP, tNegP, tSliceP, tNoPartP, tPartP, tSeqFP, tYesP, frz, List.getElem?_cons_zero, List.getElem?_cons_succ, List.set_cons_zero, List.set_cons_succ, List.append_nil, List.length_cons, List.length_nil, Nat.zero_add]
  refine q_lenC (q_lt (q_ite (fun h1 => ?_) fun h1 => ?_))
  · obtain ⟨v, hv, _⟩ := atI_in (xs := ns) hk h1
    exact q_ixC hv (hp v)
  · refine q_mul (.inr ⟨by omega, by omega⟩) ?_
    refine q_mul (.inr ⟨by omega, by omega⟩) ?_
    refine q_add ?_
    refine q_add ?_
    refine q_mul (.inl ⟨by decide, by decide⟩) ?_
    refine q_mod (by decide) ?_
    refine ⟨fun i η => ∃ (c : Int) (t : Sl), η = [.va (.scr ns), .va (.int k), .va (.int c), t] ∧ 0 ≤ c ∧ c < 1000000007, ⟨_, _, rfl, mod_lo, mod_hi⟩, ?_, ?_⟩
    · rintro i x η hi ⟨c, t, rfl, c1, c2⟩
      rw [List.getElem?_map] at hi
      cases q : (cutP ns none (some 3))[i]? with
      | none => rw [q] at hi; cases hi
      | some z =>
        rw [q] at hi; cases hi
        refine q_mul (cmul_l c1 c2) ?_
        refine q_add ?_
        refine q_mod (by decide) ?_
        exact ⟨_, _, rfl, mod_lo, mod_hi⟩
    · rintro η ⟨c, t, rfl, _, _⟩
      exact hp c
theorem rd_valid_beginning (h : sp_valid_beginning K C args P) : ts_valid_beginning K C { nx := fun _ => P .non, rt := fun x _ => P x } (startP 4 args) := by
  obtain ⟨rs, rfl, hv, hp⟩ := h
  have e : startP 4 [rowsP rs] = [.va (rowsP rs), .no, .no, .no] := rfl
  simp only [ts_valid_beginning, e, rowsP, tLcP, tForP, iStrP, iListP, iTupP, iRng1P, iRng2P, iEnumP, wipeP, tAppP, tJoinP, tSeqP, tRetP, tRetNP, tIfSP, tNextP, tNevP, tSetP, tSetFP, tDropP, tAsgP, gNameP, gNilP, gConsP, gTupP, tAndVP, tNotVP, tOrVP, tCBP, tConsP, tNilP, tVarP, tConP, tBlP, tOrP, tAndP, tNotP, tOpP, tChainP, tCallP, tCallFP, tTupP, tLstP, tLstFP, tValP, tIfP, tNegP, tSliceP, tNoPartP, tPartP, tSeqFP, tYesP, frz, List.getElem?_cons_zero, List.getElem?_cons_succ, List.set_cons_zero, List.set_cons_succ, List.append_nil, List.length_cons, List.length_nil, Nat.zero_add]
  refine ⟨fun i η => ∃ b s t, η = [.va (.tup (rs.map rowP)), .va (.str b), s, t] ∧ ∀ r, rs[i]? = some r → b.cps.toList < r.1.cps.toList, ⟨_, _, _, rfl, fun r hr => ?_⟩, ?_, ?_⟩
  · have := (hv.each r (List.mem_of_getElem? hr)).1
    have h1 : 1 ≤ r.1.length := by
      have : (decide (1 ≤ r.1.length) && _) = true := this
      exact of_decide_eq_true (Bool.and_eq_true_iff.mp this).1
    cases q : r.1.cps.toList with
    | nil =>
      have : r.1.length = 0 := by simpa [Str.length] using q
      omega
    | cons c cs => exact List.nil_lt_cons _ _
  · rintro i x η hi ⟨b, s, t, rfl, hb⟩
    obtain ⟨y, hy, rfl⟩ := enumP_get hi
    rw [List.getElem?_map] at hy
    cases q : rs[i]? with
    | none => rw [q] at hy; cases hy
    | some r =>
      rw [q] at hy; cases hy
      have hil : i < rs.length := (List.getElem?_eq_some_iff.mp q).1
      have hlen := hv.len
      obtain ⟨e1, e2, e3⟩ := hv.each r (List.mem_of_getElem? q)
      have hbr := hb r q
      have h8 : r.1.length ≤ 8 := by
        have : (_ && (decide (r.1.length ≤ 8) && _)) = true := e1
        exact of_decide_eq_true (Bool.and_eq_true_iff.mp (Bool.and_eq_true_iff.mp this).2).1
      have hz : 10 ≤ sizeLine := by decide
      refine ⟨rfl, rfl, ?_⟩
      refine q_eq ?_
      refine q_ite (fun z => by omega) fun _ => ⟨r, rfl, by omega, ?_⟩
      rw [e1, decide_eq_true e2, decide_eq_true e3]
      refine q_iteF ?_
      refine q_ixT (x := .str r.1) rfl ?_
      refine q_leS ?_
      rw [decide_eq_true hbr]
      refine q_iteF ?_
      refine q_ixT (x := .str r.1) rfl ?_
      refine ⟨r.1, _, _, rfl, fun r' hr' => ?_⟩
      have hi' : i + 1 < rs.length := (List.getElem?_eq_some_iff.mp hr').1
      have := List.pairwise_iff_getElem.mp hv.asc i (i + 1) hil hi' (Nat.lt_succ_self i)
      rw [List.getElem?_eq_getElem hil] at q
      rw [List.getElem?_eq_getElem hi'] at hr'
      cases q; cases hr'
      exact this
  · rintro η ⟨b, s, t, rfl, _⟩
    exact q_lenT (by rw [List.length_map]; exact hp)
end
end Z
set_option Elab.async false
set_option linter.all false
set_option maxRecDepth 100000
namespace Z
open PySem PySem.Spec L2
open PyProof.Rows hiding St
section
variable {K : PySem.W.Frag} {C : Addr} {args : List PV} {P : PV → Prop} {PR : PV → Ow → Prop} {PF : List PV → Prop} {o : Ow}
def menu1 : List Str := [("book" : Str), ("cancel" : Str), ("exchange" : Str), ("shift" : Str), ("seats" : Str), ("undo" : Str), ("show" : Str), ("line" : Str), ("count" : Str), ("number" : Str), ("load" : Str), ("trip" : Str)]
def menu2 : List Str := [("none" : Str), ("cut" : Str), ("overfull" : Str), ("a" : Str), ("b" : Str), ("x" : Str), ("plan" : Str), ("route" : Str), ("fixed" : Str), ("full" : Str), ("goal" : Str), ("name" : Str)]
def menuL : List Str := menu1 ++ menu2
theorem at_map {α : Type} {f : α → PV} {xs : List α} {j : Int} (d : α) (h0 : 0 ≤ j) (h1 : j < xs.length) : atI (xs.map f) j = some (f (xs.getD j.toNat d)) := by
  have h : j.toNat < xs.length := by omega
  have e : (xs.map f)[j.toNat]? = some (f (xs.getD j.toNat d)) := by
    rw [List.getElem?_map, List.getElem?_eq_getElem h, List.getD_eq_getElem?_getD, List.getElem?_eq_getElem h]; rfl
  have := atI_nat e
  rwa [Int.toNat_of_nonneg h0] at this
theorem at_get {α : Type} {xs : List α} {j : Int} (d : α) (h0 : 0 ≤ j) (h1 : j < xs.length) : atI xs j = some (xs.getD j.toNat d) := by
  have h : j.toNat < xs.length := by omega
  have e : xs[j.toNat]? = some (xs.getD j.toNat d) := by
    rw [List.getElem?_eq_getElem h, List.getD_eq_getElem?_getD, List.getElem?_eq_getElem h]; rfl
  have := atI_nat e
  rwa [Int.toNat_of_nonneg h0] at this
def W0 (b n : Nat) : List Str := (List.range n).map fun k => menuL.getD ((b + 5 * k) % 24) Str.empty
def W1 (b n : Nat) : List Str := (List.range n).map fun k => strRep ⟨#[abc.cps.toList.getD ((b + 7 * k) % 26) 0]⟩ (1 + k % 8)
theorem Nms.take {ws : List Str} (n : Nat) (h : Nms ws) : Nms (ws.take n) := ⟨fun w hw => h.1 w (List.mem_of_mem_take hw), h.2.sublist (List.take_sublist n ws)⟩
theorem W0_nms : ∀ b < 24, Nms (W0 b 24) := by
  have : ∀ b < 24, ((W0 b 24).all fun w => isNm (.str w)) = true ∧ (W0 b 24).Nodup := by decide +kernel
  exact fun b hb => ⟨fun w hw => List.all_eq_true.mp (this b hb).1 w hw, (this b hb).2⟩
theorem W1_nms : ∀ b < 24, Nms (W1 b 24) := by
  have : ∀ b < 24, ((W1 b 24).all fun w => isNm (.str w)) = true ∧ (W1 b 24).Nodup := by decide +kernel
  exact fun b hb => ⟨fun w hw => List.all_eq_true.mp (this b hb).1 w hw, (this b hb).2⟩
theorem map_take {α : Type} {f : Nat → α} {n m : Nat} (h : n ≤ m) : (List.range n).map f = ((List.range m).map f).take n := by
  rw [← List.map_take, List.take_range, Nat.min_eq_left h]
theorem W0_n {b n : Nat} (hb : b < 24) (hn : n ≤ 24) : Nms (W0 b n) := by
  unfold W0; rw [map_take hn]; exact (W0_nms b hb).take n
theorem W1_n {b n : Nat} (hb : b < 24) (hn : n ≤ 24) : Nms (W1 b n) := by
  unfold W1; rw [map_take hn]; exact (W1_nms b hb).take n
theorem joinL_nil : ∀ ps : List (List Nat), TL.joinL [] ps = ps.flatten
  | [] => rfl
  | [p] => by simp [TL.joinL]
  | p :: q :: r => by
    show p ++ ([] ++ TL.joinL [] (q :: r)) = _
    rw [joinL_nil (q :: r)]; simp
theorem flat_ones : ∀ cs : List Nat, (cs.map fun c => [c]).flatten = cs
  | [] => rfl
  | c :: cs => by rw [List.map_cons, List.flatten_cons, flat_ones cs]; rfl
/-- signs, joined -/
theorem join_ones (cs : List Nat) : Txt.join Str.empty (cs.map fun c => (⟨#[c]⟩ : Str)) = ⟨cs.toArray⟩ := by
  have h : TL.tl (Txt.join Str.empty (cs.map fun c => (⟨#[c]⟩ : Str))) = cs := by
    rw [TL.join_eq, TL.tl_join, show TL.tl Str.empty = [] from rfl, joinL_nil, List.map_map]
    exact flat_ones cs
  have : ∀ a : Str, a = ⟨(TL.tl a).toArray⟩ := fun a => by cases a; simp
  rw [this (Txt.join _ _), h]
theorem strsOf_map {α : Type} (f : α → Str) : ∀ cs : List α, strsOf (cs.map fun c => PV.str (f c)) = some (cs.map f)
  | [] => rfl
  | c :: cs => by rw [List.map_cons, strsOf, strsOf_map f cs]; rfl
def W2 (st : List Nat) (p b n : Nat) : List Str := (List.range n).map fun k => ⟨(st.take p ++ (abc.cps.toList.getD ((b + 5 * k) % 26) 0 :: st.drop p)).toArray⟩
theorem lets_nd : ∀ b < 24, ((List.range 24).map fun k => abc.cps.toList.getD ((b + 5 * k) % 26) 0).Nodup := by decide +kernel
theorem lets_in : ∀ j < 26, abc.cps.toList.getD j 0 ∈ abc.cps.toList := by decide +kernel
theorem W2_n {st : List Nat} {p b n : Nat} (hs : ∀ c ∈ st, c ∈ abc.cps.toList) (hl : st.length ≤ 7) (hb : b < 24) (hn : n ≤ 24) : Nms (W2 st p b n) := by
  refine ⟨fun w hw => ?_, ?_⟩
  · unfold W2 at hw
    obtain ⟨k, hk, rfl⟩ := List.mem_map.mp hw
    have e : (st.take p).length + (st.drop p).length = st.length := by rw [← List.length_append, List.take_append_drop]
    have e1 : (⟨(st.take p ++ (abc.cps.toList.getD ((b + 5 * k) % 26) 0 :: st.drop p)).toArray⟩ : Str).length = st.length + 1 := by
      show ((st.take p ++ (abc.cps.toList.getD ((b + 5 * k) % 26) 0 :: st.drop p)).toArray).size = _
      rw [List.size_toArray, List.length_append, List.length_cons]; omega
    show (decide (1 ≤ _) && (decide (_ ≤ 8) && List.all _ _)) = true
    rw [e1, decide_eq_true (by omega), decide_eq_true (by omega), Bool.true_and, Bool.true_and]
    refine List.all_eq_true.mpr fun c hc => decide_eq_true ?_
    have hc : c ∈ st.take p ++ (abc.cps.toList.getD ((b + 5 * k) % 26) 0 :: st.drop p) := by simpa using hc
    rcases List.mem_append.mp hc with h | h
    · exact hs c (List.mem_of_mem_take h)
    · rcases List.mem_cons.mp h with h | h
      · rw [h]; exact lets_in _ (Nat.mod_lt _ (by decide))
      · exact hs c (List.mem_of_mem_drop h)
  · have : (W2 st p b 24).Nodup := by
      have h := lets_nd b hb
      unfold W2
      rw [show (fun k => (⟨(st.take p ++ (abc.cps.toList.getD ((b + 5 * k) % 26) 0 :: st.drop p)).toArray⟩ : Str)) = (fun c : Nat => (⟨(st.take p ++ (c :: st.drop p)).toArray⟩ : Str)) ∘ (fun k => abc.cps.toList.getD ((b + 5 * k) % 26) 0) from rfl, ← List.map_map]
      refine List.Pairwise.map _ (fun c d hcd e => ?_) h
      have e' : st.take p ++ (c :: st.drop p) = st.take p ++ (d :: st.drop p) := by simpa using congrArg (fun s : Str => s.cps.toList) e
      exact hcd (List.cons.inj (List.append_cancel_left e')).1
    unfold W2 at this ⊢
    rw [map_take hn]
    exact this.sublist (List.take_sublist _ _)
theorem rd_law_words (h : sp_law_words K C o args PR) : ts_law_words K C { nx := fun η' => ∃ o', η'[0]? = some (Sl.ow o') ∧ PR .non o', rt := fun x η' => ∃ o', η'[0]? = some (Sl.ow o') ∧ PR x o' } (startR 9 o args) := by
  obtain ⟨m, po, rfl, m0, m1, hp⟩ := h
  have e : startR 9 o [.int m] = [.ow o, .va (.int m), .no, .no, .no, .no, .no, .no, .no] := rfl
  rw [e]
  have z24 : 24 < sizeLine := by decide
  refine w_seq (w_set (w_con ?_))
  dsimp only
  refine w_seq (w_set (w_lst (w_strs (ws := menu1) ⟨by decide, ?_⟩)))
  dsimp only
  refine w_seq (w_set (w_op (w_var rfl (w_lst (w_strs (ws := menu2) ⟨by decide, q_addL (by decide) ?_⟩)))))
  dsimp only
  rw [← List.map_append]
  refine w_seq (w_asg (w_tup (w_cons (q_draw rfl rfl po (by decide) (by decide) fun o1 wy p1 wy0 wy1 => ?_))))
  refine w_cons (q_draw rfl rfl p1 (by decide) (by decide) fun o2 b p2 b0 b1 => ?_)
  refine w_nil ⟨sz2, rfl, rfl, ?_⟩
  obtain ⟨b, rfl⟩ := Int.eq_ofNat_of_zero_le b0
  have hb : b < 24 := by omega
  simp only [List.set_cons_zero, List.set_cons_succ]
  refine w_seq (w_if (w_bl (w_op (w_var rfl (w_con (q_eq ?_))))))
  simp only [List.set_cons_zero, List.set_cons_succ]
  refine q_ite (fun hw => ?_) fun hw => ?_
  · refine w_ret (w_val (w_lc (w_rng1 (w_var rfl ⟨by omega, by omega, ?_⟩))))
    refine ⟨fun i acc η => acc = (W0 b i).map .str ∧ η = [.ow o2, .va (.int m), .va (.str abc), .va (.lst (menuL.map .str)), .va (.int wy), .va (.int b), .no, .no, .no], ⟨rfl, rfl⟩, ?_, ?_⟩
    · rintro i x acc η hi ⟨rfl, rfl⟩
      obtain ⟨hn, rfl⟩ := rangeP_get hi
      have hz : ((W0 b i).map PV.str).length < sizeLine := by simp [W0]; omega
      refine w_gname (w_yes (q_iteT ?_))
      refine w_op (w_var rfl (w_op (w_op (w_var rfl (w_op (w_con (w_var rfl (q_mul (.inl ⟨by decide, by decide⟩) (q_add (w_con (q_mod (by decide) ?_)))))))))))
      have ej : ((b : Int) + 5 * (0 + (i : Int))) % 24 = (((b + 5 * i) % 24 : Nat) : Int) := by omega
      refine q_ix (x := .str (menuL.getD ((b + 5 * i) % 24) Str.empty)) ?_ ⟨hz, ?_, rfl⟩
      · rw [ej]
        exact at_map Str.empty (by omega) (by show _ < ((24 : Nat) : Int); omega)
      · unfold W0; rw [List.range_succ, List.map_append, List.map_append]; rfl
    · rintro acc η ⟨rfl, rfl⟩
      rw [rangeP_len]
      exact ⟨o2, rfl, hp o2 _ p2 (by simp [W0]) (W0_n hb (by omega))⟩
  refine w_next ?_
  simp only [List.set_cons_zero, List.set_cons_succ]
  refine w_seq (w_if (w_bl (w_op (w_var rfl (w_con (q_eq ?_))))))
  simp only [List.set_cons_zero, List.set_cons_succ]
  refine q_ite (fun hw => ?_) fun hw => ?_
  · refine w_ret (w_val (w_lc (w_rng1 (w_var rfl ⟨by omega, by omega, ?_⟩))))
    refine ⟨fun i acc η => acc = (W1 b i).map .str ∧ η = [.ow o2, .va (.int m), .va (.str abc), .va (.lst (menuL.map .str)), .va (.int wy), .va (.int b), .no, .no, .no], ⟨rfl, rfl⟩, ?_, ?_⟩
    · rintro i x acc η hi ⟨rfl, rfl⟩
      obtain ⟨hn, rfl⟩ := rangeP_get hi
      have hz : ((W1 b i).map PV.str).length < sizeLine := by simp [W1]; omega
      refine w_gname (w_yes (q_iteT ?_))
      refine w_op (w_op (w_var rfl (w_op (w_op (w_var rfl (w_op (w_con (w_var rfl (q_mul (.inl ⟨by decide, by decide⟩) (q_add (w_con (q_mod (by decide) ?_))))))))))))
      have ej : ((b : Int) + 7 * (0 + (i : Int))) % 26 = (((b + 7 * i) % 26 : Nat) : Int) := by omega
      refine q_ixS (by decide) (by rw [ej]; exact at_get 0 (by omega) (by show _ < ((26 : Nat) : Int); omega)) ?_
      refine w_op (w_con (w_op (w_var rfl (w_con (q_mod (by decide) (q_add ?_))))))
      refine q_mulS (by omega) (by omega) (by show 1 ≤ 1000; decide) ⟨hz, ?_, rfl⟩
      have e8 : ((1 : Int) + (0 + (i : Int)) % 8).toNat = 1 + i % 8 := by omega
      have e7 : (((b + 7 * i) % 26 : Nat) : Int).toNat = (b + 7 * i) % 26 := by omega
      unfold W1; rw [List.range_succ, List.map_append, List.map_append, e8, e7]; rfl
    · rintro acc η ⟨rfl, rfl⟩
      rw [rangeP_len]
      exact ⟨o2, rfl, hp o2 _ p2 (by simp [W1]) (W1_n hb (by omega))⟩
  refine w_next ?_
  simp only [List.set_cons_zero, List.set_cons_succ]
  refine w_seq (w_set (w_join (w_con ⟨⟨_, rfl⟩, w_val (w_lc (w_rng1 (q_draw rfl rfl p2 (by decide) (by decide) fun o3 l p3 l0 l1 => ?_)))⟩)))
  refine ⟨by omega, by omega, ?_⟩
  refine ⟨fun i acc η => ∃ cs : List Nat, acc = cs.map (fun c => .str ⟨#[c]⟩) ∧ cs.length = i ∧ (∀ c ∈ cs, c ∈ abc.cps.toList) ∧ ∃ o', Pool o' ∧ η = [.ow o', .va (.int m), .va (.str abc), .va (.lst (menuL.map .str)), .va (.int wy), .va (.int b), .no, .no, .no], ⟨[], rfl, rfl, fun _ h => (by cases h), o3, p3, rfl⟩, ?_, ?_⟩
  · rintro i x acc η hi ⟨cs, rfl, hcl, hcs, o', p', rfl⟩
    obtain ⟨hn, rfl⟩ := rangeP_get hi
    refine w_gname (w_yes (q_iteT ?_))
    refine w_op (w_var rfl (q_draw rfl rfl p' (by decide) (by decide) fun o'' j p'' j0 j1 => ?_))
    refine q_ixS (by decide) (at_get 0 j0 (by show _ < ((26 : Nat) : Int); omega)) ⟨by rw [List.length_map]; omega, ?_⟩
    refine ⟨cs ++ [abc.cps.toList.getD j.toNat 0], by rw [List.map_append]; rfl, by simp [hcl], fun c hc => ?_, o'', p'', rfl⟩
    rcases List.mem_append.mp hc with h | h
    · exact hcs c h
    · rw [List.mem_singleton.mp h]; exact lets_in _ (by omega)
  rintro acc η ⟨cs, rfl, hcl, hcs, o4, p4, rfl⟩
  rw [rangeP_len] at hcl
  refine ⟨cs.map fun c => ⟨#[c]⟩, strsOf_map _ cs, ?_, ?_⟩
  · have : ((cs.map fun c => (⟨#[c]⟩ : Str)).map (·.length)).sum = cs.length := by
      rw [List.map_map]
      have : ∀ cs : List Nat, (cs.map ((·.length) ∘ fun c => (⟨#[c]⟩ : Str))).sum = cs.length := fun cs => by
        induction cs with
        | nil => rfl
        | cons c cs ih => rw [List.map_cons, List.sum_cons, ih, List.length_cons]; show 1 + _ = _; omega
      exact this cs
    rw [this, show (Str.ofString "").length = 0 from rfl]
    omega
  rw [show (Str.ofString "" : Str) = Str.empty from rfl, join_ones]
  simp only [List.set_cons_zero, List.set_cons_succ]
  have hst : (⟨cs.toArray⟩ : Str).length = cs.length := by show cs.toArray.size = _; simp
  refine w_seq (w_set (w_callR rfl (w_cons (w_op (w_cb (w_cons (w_var rfl (w_nil (q_lenS (by rw [hst]; omega) (w_con (q_add (w_nil (q_callM rfl ?_)))))))))))))
  refine ⟨_, p4, rfl, by omega, by rw [hst]; omega, fun o5 pI p5 pi0 pi1 => ?_⟩
  rw [hst] at pi1
  obtain ⟨p, rfl⟩ := Int.eq_ofNat_of_zero_le pi0
  have hpl : p ≤ cs.length := by omega
  simp only [List.set_cons_zero, List.set_cons_succ]
  refine w_ret (w_val (w_lc (w_rng1 (w_var rfl ⟨by omega, by omega, ?_⟩))))
  refine ⟨fun i acc η => acc = (W2 cs p b i).map .str ∧ η = [.ow o5, .va (.int m), .va (.str abc), .va (.lst (menuL.map .str)), .va (.int wy), .va (.int b), .va (.str ⟨cs.toArray⟩), .va (.int p), .no], ⟨rfl, rfl⟩, ?_, ?_⟩
  · rintro i x acc η hi ⟨rfl, rfl⟩
    obtain ⟨hn, rfl⟩ := rangeP_get hi
    have hz : ((W2 cs p b i).map PV.str).length < sizeLine := by simp [W2]; omega
    have ej : ((b : Int) + 5 * (0 + (i : Int))) % 26 = (((b + 5 * i) % 26 : Nat) : Int) := by omega
    have hs8 : 100 < sizeLine := by decide
    refine w_gname (w_yes (q_iteT ?_))
    refine w_op (w_op (w_slice (w_var rfl (w_nop (w_part (w_var rfl (q_slS (by rw [hst]; omega) ?_)))))))
    refine w_op (w_var rfl (w_op (w_op (w_var rfl (w_op (w_con (w_var rfl (q_mul (.inl ⟨by decide, by decide⟩) (q_add (w_con (q_mod (by decide) ?_)))))))))))
    refine q_ixS (by decide) (by rw [ej]; exact at_get 0 (by omega) (by show _ < ((26 : Nat) : Int); omega)) ?_
    have l1 := cutS_length ⟨cs.toArray⟩ none (some (p : Int))
    have l2 := cutS_length ⟨cs.toArray⟩ (some (p : Int)) none
    refine q_addS (by rw [hst] at l1; show _ + 1 ≤ _; omega) ?_
    refine w_slice (w_var rfl (w_part (w_var rfl (w_nop (q_slS (by rw [hst]; omega) ?_)))))
    refine q_addS (by rw [hst] at l1 l2; rw [Str.length_append]; show _ + 1 + _ ≤ _; omega) ⟨hz, ?_, rfl⟩
    unfold W2
    rw [List.range_succ, List.map_append, List.map_append]
    have e7 : (((b + 5 * i) % 26 : Nat) : Int).toNat = (b + 5 * i) % 26 := by omega
    have ec1 : cutS ⟨cs.toArray⟩ none (some (p : Int)) = ⟨(cs.take p).toArray⟩ := by
      unfold cutS
      rw [HT.sIx_nat, HT.sIx_none, hst, Nat.min_eq_left hpl]; simp
    have ec2 : cutS ⟨cs.toArray⟩ (some (p : Int)) none = ⟨(cs.drop p).toArray⟩ := by
      unfold cutS
      rw [HT.sIx_nat, HT.sIx_none, hst, Nat.min_eq_left hpl, List.take_of_length_le (by simp)]
    rw [ec1, ec2, e7]
    have : (⟨(cs.take p).toArray⟩ : Str) ++ (⟨#[abc.cps.toList.getD ((b + 5 * i) % 26) 0]⟩ : Str) ++ (⟨(cs.drop p).toArray⟩ : Str) = ⟨(cs.take p ++ (abc.cps.toList.getD ((b + 5 * i) % 26) 0 :: cs.drop p)).toArray⟩ := by
      show (⟨_ ++ _ ++ _⟩ : Str) = _
      congr 1
      simp
    rw [this]; rfl
  · rintro acc η ⟨rfl, rfl⟩
    rw [rangeP_len]
    exact ⟨o5, rfl, hp o5 _ p5 (by simp [W2]) (W2_n hcs (by omega) hb (by omega))⟩
end
end Z
set_option Elab.async false
set_option linter.all false
set_option maxRecDepth 100000
namespace Z
open PySem PySem.Spec L2
open PyProof.Rows hiding St
section
variable {K : PySem.W.Frag} {C : Addr} {args : List PV} {P : PV → Prop} {PR : PV → Ow → Prop} {PF : List PV → Prop} {o : Ow}
theorem w_par {is : List Nat} {tr : TArp} {D : EndsP} {η : EP'} (h : tr η fun ars η1 => ars.length = is.length ∧ okIx η1.length is ars ∧ D.nx (storesP is ars η1)) : tParP is tr D η := h
theorem w_arF {tf : TFp} {tr : TArp} {η : EP'} {Q : List Ar → EP' → Prop} (h : tf η fun xs η1 => tr η1 fun ars η2 => Q (.f xs :: ars) η2) : tConsF tf tr η Q := h
theorem w_arV {te : TEp} {tr : TArp} {η : EP'} {Q : List Ar → EP' → Prop} (h : te η fun x η1 => tr η1 fun ars η2 => Q (.v x :: ars) η2) : tConsV te tr η Q := h
theorem w_arN {η : EP'} {Q : List Ar → EP' → Prop} (h : Q [] η) : tNilAr η Q := h
def appM (s : Nat) (x : PV) (η : EP') (R : EP' → Prop) : Prop := match η[s]? with
  | some (.ow (.l xs)) => xs.length < sizeLine ∧ R (η.set s (.ow (.l (xs ++ [x]))))
  | _ => False
theorem w_app {s : Nat} {te : TEp} {D : EndsP} {η : EP'} {xs : List PV} (e : η[s]? = some (.ow (.l xs))) (h : te η fun x η1 => appM s x η1 D.nx) : tAppP s te D η := ⟨⟨xs, e⟩, h⟩
theorem q_appM {s : Nat} {x : PV} {η : EP'} {R : EP' → Prop} {xs : List PV} (e : η[s]? = some (.ow (.l xs))) (l : xs.length < sizeLine) (h : R (η.set s (.ow (.l (xs ++ [x]))))) : appM s x η R := by unfold appM; rw [e]; exact ⟨l, h⟩
theorem pw_snoc {α : Type} {r : α → α → Prop} {xs : List α} {x : α} (h : xs.Pairwise r) (h' : ∀ y ∈ xs, r y x) : (xs ++ [x]).Pairwise r := List.pairwise_append.mpr ⟨h, List.pairwise_singleton _ _, fun a ha b hb => by rw [List.mem_singleton.mp hb]; exact h' a ha⟩
theorem rd_law_far (h : sp_law_far K C o args PR) : ts_law_far K C { nx := fun η' => ∃ o', η'[0]? = some (Sl.ow o') ∧ PR .non o', rt := fun x η' => ∃ o', η'[0]? = some (Sl.ow o') ∧ PR x o' } (startR 6 o args) := by
  obtain ⟨hh, po, rfl, h0, h30, hp⟩ := h
  have e : startR 6 o [.int hh] = [.ow o, .va (.int hh), .no, .no, .no, .no] := rfl
  rw [e]
  refine w_seq (w_par (w_arF (w_lstF (w_nil ⟨Nat.zero_le _, ?_⟩))))
  refine w_arV (q_draw rfl rfl po (by decide) (by decide) fun o1 he p1 he0 he1 => ?_)
  refine w_arV (q_draw rfl rfl p1 (by decide) (by decide) fun o2 wy p2 wy0 wy1 => ?_)
  refine w_arN ⟨rfl, ⟨by decide, by show 2 < 6; decide, trivial⟩, ?_⟩
  simp only [storesP, List.set_cons_zero, List.set_cons_succ]
  refine w_seq (w_for (w_rng1 (w_op (w_var rfl (w_con (q_add ⟨by omega, by omega, ?_⟩))))))
  refine ⟨fun i η => ∃ (o' : Ow) (xs : List Int) (here : Int) (t : Sl), Pool o' ∧ xs.length = i ∧ η = [.ow o', .va (.int hh), .ow (.l (xs.map .int)), .va (.int here), .va (.int wy), t] ∧ xs.Pairwise (· < ·) ∧ (∀ x ∈ xs, 0 ≤ x ∧ x < 10 ^ 40 ∧ (0 < wy → x < i) ∧ (¬ 0 < wy → x < here)) ∧ 0 ≤ here ∧ here ≤ 3 + i * (2 * 10 ^ 29), ?_, ?_, ?_⟩
  · exact ⟨o2, [], he, .no, p2, rfl, rfl, .nil, fun _ h => (by cases h), he0, by omega⟩
  · rintro i x η hi ⟨o', xs, here, t, p', hl, rfl, pw, hx, g0, g1⟩
    obtain ⟨hn, rfl⟩ := rangeP_get hi
    have hz : (xs.map PV.int).length < sizeLine := by have : 100 < sizeLine := (by decide); rw [List.length_map]; omega
    have hi31 : (i : Int) ≤ 30 := by omega
    have key : ∀ x : Int, (if 0 < wy then x = 0 + i else x = here) → ∃ η', (xs ++ [x]).Pairwise (· < ·) ∧ (∀ y ∈ xs ++ [x], 0 ≤ y ∧ y < 10 ^ 40 ∧ (0 < wy → y < ((i + 1 : Nat) : Int)) ∧ (¬ 0 < wy → y < here + 1)) ∧ η' = (0 : Nat) := by
      intro x hxe
      refine ⟨0, pw_snoc pw fun y hy => ?_, fun y hy => ?_, rfl⟩
      · obtain ⟨a1, a2, a3, a4⟩ := hx y hy
        by_cases hw : 0 < wy
        · rw [if_pos hw] at hxe; have := a3 hw; omega
        · rw [if_neg hw] at hxe; have := a4 hw; omega
      · rcases List.mem_append.mp hy with h | h
        · obtain ⟨a1, a2, a3, a4⟩ := hx y h
          refine ⟨a1, a2, fun hw => ?_, fun hw => ?_⟩
          · have := a3 hw; omega
          · have := a4 hw; omega
        · rw [List.mem_singleton.mp h]
          by_cases hw : 0 < wy
          · rw [if_pos hw] at hxe; refine ⟨by omega, by omega, fun _ => by omega, fun q => absurd hw q⟩
          · rw [if_neg hw] at hxe; refine ⟨by omega, by omega, fun q => absurd q hw, fun _ => by omega⟩
    have rest : ∀ x : Int, (if 0 < wy then x = 0 + i else x = here) → tSetP 3 (tOpP rAdd (tOpP rAdd (tVarP 3) (tConP (.int 1))) (tOpP rIxP (tLstP (tConsP (tConP (.int 0)) (tConsP (tCallRP 0 (sp_law_draw K C) (tConsP (tConP (.int 9)) (tNilP))) (tConsP (tOpP rPow (tConP (.int 10)) (tConP (.int 29))) (tNilP))))) (tCallRP 0 (sp_law_draw K C) (tConsP (tConP (.int 3)) (tNilP)))))
        { nx := fun η => ∃ (o' : Ow) (xs : List Int) (here : Int) (t : Sl), Pool o' ∧ xs.length = i + 1 ∧ η = [.ow o', .va (.int hh), .ow (.l (xs.map .int)), .va (.int here), .va (.int wy), t] ∧ xs.Pairwise (· < ·) ∧ (∀ x ∈ xs, 0 ≤ x ∧ x < 10 ^ 40 ∧ (0 < wy → x < ((i + 1 : Nat) : Int)) ∧ (¬ 0 < wy → x < here)) ∧ 0 ≤ here ∧ here ≤ 3 + ((i + 1 : Nat) : Int) * (2 * 10 ^ 29), rt := fun x η' => ∃ o', η'[0]? = some (Sl.ow o') ∧ PR x o' }
        [.ow o', .va (.int hh), .ow (.l ((xs ++ [x]).map .int)), .va (.int here), .va (.int wy), .va (.int (0 + i))] := by
      intro x hxe
      obtain ⟨_, k1, k2, _⟩ := key x hxe
      refine w_set (w_op (w_op (w_var rfl (w_con (q_add ?_)))))
      refine w_op (w_lst (w_cons (w_con (w_cons (q_draw rfl rfl p' (by decide) (by decide) fun o3 d p3 d0 d1 => ?_)))))
      refine w_cons (w_op (w_con (w_con (q_pow ⟨by decide, by decide, by decide⟩ (w_nil ⟨sz3, ?_⟩)))))
      refine q_draw rfl rfl p3 (by decide) (by decide) fun o4 j p4 j0 j1 => ?_
      have fin : ∀ v : Int, 0 ≤ v → v ≤ 10 ^ 29 → ∃ (o' : Ow) (xs' : List Int) (here' : Int) (t : Sl), Pool o' ∧ xs'.length = i + 1 ∧ [Sl.ow o4, .va (.int hh), .ow (.l ((xs ++ [x]).map .int)), .va (.int (here + 1 + v)), .va (.int wy), .va (.int (0 + i))] = [.ow o', .va (.int hh), .ow (.l (xs'.map .int)), .va (.int here'), .va (.int wy), t] ∧ xs'.Pairwise (· < ·) ∧ (∀ x ∈ xs', 0 ≤ x ∧ x < 10 ^ 40 ∧ (0 < wy → x < ((i + 1 : Nat) : Int)) ∧ (¬ 0 < wy → x < here')) ∧ 0 ≤ here' ∧ here' ≤ 3 + ((i + 1 : Nat) : Int) * (2 * 10 ^ 29) := by
        intro v v0 v1
        refine ⟨o4, xs ++ [x], here + 1 + v, _, p4, by simp [hl], rfl, k1, fun y hy => ?_, by omega, by omega⟩
        obtain ⟨a1, a2, a3, a4⟩ := k2 y hy
        exact ⟨a1, a2, a3, fun q => by have := a4 q; omega⟩
      obtain rfl | rfl | rfl : j = 0 ∨ j = 1 ∨ j = 2 := by omega
      · exact q_ix (x := .int 0) rfl (q_add (fin 0 (by decide) (by decide)))
      · exact q_ix (x := .int d) rfl (q_add (fin d d0 (by omega)))
      · exact q_ix (x := .int (10 ^ 29)) rfl (q_add (fin (10 ^ 29) (by decide) (by decide)))
    refine w_gname ?_
    refine w_seq (w_app (xs := xs.map .int) rfl (w_ife (w_bl (w_op (w_var rfl (w_con (q_gt ?_)))))))
    refine q_ite (fun hw => ?_) fun hw => ?_
    · refine w_var rfl (q_appM rfl hz ?_)
      have := rest (0 + i) (by rw [if_pos hw])
      rw [List.map_append] at this
      exact this
    · refine w_var rfl (q_appM rfl hz ?_)
      have := rest here (by rw [if_neg hw])
      rw [List.map_append] at this
      exact this
  · rintro η ⟨o', xs, here, t, p', hl, rfl, pw, hx, g0, g1⟩
    rw [rangeP_len] at hl
    dsimp only
    refine w_ret ?_
    refine w_varO (o := .l (xs.map .int)) rfl ?_
    exact ⟨o', rfl, hp o' xs p' (by rw [hl]) pw fun x q => ⟨(hx x q).1, (hx x q).2.1⟩⟩
theorem w_varL {xs : List PV} {η : EP'} {s : Nat} {Q : List PV → EP' → Prop} (e : η[s]? = some (.va (.lst xs))) (h : Q xs η) : iListP (tVarP s) η Q := by
  unfold iListP
  exact w_var e h
theorem w_tvar {x : PV} {η : EP'} {s : Nat} {Q : PV → EP' → Prop} (e : η[s]? = some (.va x)) (h : Q x η) : tVarP s η Q := w_var e h
theorem dlt_rows {a b : Trip} (h : a.1 ≠ b.1) : PySem.W.dataLe false encD (rowP a) (rowP b) = true → a.1.cps.toList < b.1.cps.toList := by
  intro q
  have q' : (!PySem.W.dataLt (.tuple [.str b.1, .int b.2.1, .int b.2.2]) (.tuple [.str a.1, .int a.2.1, .int a.2.2])) = true := q
  rw [PySem.W.dataLt_tuple, PySem.W.dataLt_cons (by simp [PySem.W.alike])] at q'
  have hne : PyData.eqv (.str b.1) (.str a.1) = false := by
    simp only [PyData.eqv]
    exact beq_eq_false_iff_ne.mpr fun z => h z.symm
  rw [hne, if_neg Bool.false_ne_true, PySem.W.dataLt_str] at q'
  have nb : ¬ b.1.cps.toList < a.1.cps.toList := by simpa using q'
  have hl : a.1.cps.toList ≠ b.1.cps.toList := fun z => h (by
    have : a.1.cps = b.1.cps := Array.toList_inj.mp z
    cases ha : a.1; cases hb : b.1; rw [ha, hb] at this; simp at this; rw [this])
  exact Classical.byContradiction fun na => hl (List.le_antisymm (List.not_lt.mp nb) (List.not_lt.mp na))
theorem sort_rows {rows : List Trip} (hn : (rows.map (·.1)).Nodup) : ∃ rs : List Trip, (rows.map rowP).mergeSort (PySem.W.dataLe false encD) = rs.map rowP ∧ rs.Perm rows ∧ rs.Pairwise fun a b => a.1.cps.toList < b.1.cps.toList := by
  have T := PySem.W.sortLe_total (PyProof.Rows.listOrd PyProof.Rows.itemOrd) false fun b : PV => PySem.W.keyToks (encD b)
  refine ⟨rows.mergeSort fun a b => PySem.W.dataLe false encD (rowP a) (rowP b), ?_, List.mergeSort_perm _ _, ?_⟩
  · exact (List.map_mergeSort (f := rowP) (r := fun a b => PySem.W.dataLe false encD (rowP a) (rowP b)) (s := PySem.W.dataLe false encD) (fun _ _ _ _ => rfl)).symm
  · have hp := List.mergeSort_perm rows fun a b => PySem.W.dataLe false encD (rowP a) (rowP b)
    have h1 : (rows.mergeSort fun a b => PySem.W.dataLe false encD (rowP a) (rowP b)).Pairwise fun a b => PySem.W.dataLe false encD (rowP a) (rowP b) = true :=
      List.pairwise_mergeSort (le := fun a b => PySem.W.dataLe false encD (rowP a) (rowP b)) (fun a b c p q => T.trans (rowP a) (rowP b) (rowP c) p q) (fun a b => by
        rcases T.total (rowP a) (rowP b) with p | p
        · exact Bool.or_eq_true_iff.mpr (.inl p)
        · exact Bool.or_eq_true_iff.mpr (.inr p)) rows
    have h2 : ((rows.mergeSort fun a b => PySem.W.dataLe false encD (rowP a) (rowP b)).map (·.1)).Nodup := (hp.map _).nodup_iff.mpr hn
    have h3 := List.pairwise_map.mp h2
    exact (h1.and h3).imp fun p => dlt_rows p.2 p.1
end
end Z
set_option Elab.async false
set_option linter.all false
set_option maxRecDepth 100000
namespace Z
open PySem PySem.Spec L2
open PyProof.Rows hiding St
section
variable {K : PySem.W.Frag} {C : Addr} {args : List PV} {P : PV → Prop} {PR : PV → Ow → Prop} {PF : List PV → Prop} {o : Ow}
def rowD (r : Trip) : PyData := .tuple [.str r.1, .int r.2.1, .int r.2.2]
theorem toDs_rows : ∀ rs : List Trip, toDs (rs.map rowP) = some (rs.map rowD)
  | [] => rfl
  | r :: rs => by
    rw [List.map_cons, toDs, toDs_rows rs]
    rfl
theorem alike_rows (rs : List Trip) : PySem.W.AllAlike (rs.map rowD) := fun d hd d' hd' => by
  obtain ⟨a, _, rfl⟩ := List.mem_map.mp hd
  obtain ⟨b, _, rfl⟩ := List.mem_map.mp hd'
  simp [rowD, PySem.W.alike, PySem.W.alikeAll]
theorem q_sort {rows : List Trip} (hn : (rows.map (·.1)).Nodup) (hl : rows.length ≤ 24) (h : ∀ rs : List Trip, rs.Perm rows → (rs.Pairwise fun a b => a.1.cps.toList < b.1.cps.toList) → P (.lst (rs.map rowP))) : rSortD [.lst (rows.map rowP)] P := by
  refine ⟨_, toDs_rows rows, alike_rows rows, .inl fun d hd => ?_, fun x hx => ?_, ?_, ?_⟩
  · obtain ⟨a, _, rfl⟩ := List.mem_map.mp hd
    exact ⟨_, _, rfl⟩
  · obtain ⟨a, _, rfl⟩ := List.mem_map.mp hx
    show (PyData.tuple [.str a.1, .int a.2.1, .int a.2.2]).depth ≤ 50
    simp [PyData.depth, PyData.depthAll]
  · have : 24 ≤ sizeLine := by decide
    rw [List.length_map]; omega
  · obtain ⟨rs, e, p, s⟩ := sort_rows hn
    rw [e]; exact h rs p s
theorem rd_law_rides (h : sp_law_rides K C o args PR) : ts_law_rides K C { nx := fun η' => ∃ o', η'[0]? = some (Sl.ow o') ∧ PR .non o', rt := fun x η' => ∃ o', η'[0]? = some (Sl.ow o') ∧ PR x o' } (startR 9 o args) := by
  obtain ⟨ws, hh, po, rfl, hw, hwl, h1, h30, hp⟩ := h
  have e : startR 9 o [.lst (ws.map .str), .int hh] = [.ow o, .va (.lst (ws.map .str)), .va (.int hh), .no, .no, .no, .no, .no, .no] := rfl
  rw [e]
  have sz : 100 < sizeLine := by decide
  refine w_seq (w_par (w_arV (w_callR rfl (w_cons (w_var rfl (w_nil (q_callM rfl ⟨hh, po, rfl, by omega, h30, fun o1 ps p1 pl pw pb => ?_⟩)))))))
  refine w_arF (w_lstF (w_nil ⟨Nat.zero_le _, ?_⟩))
  refine w_arV (w_con (w_arN ⟨rfl, ⟨by decide, by show 4 < 9; decide, trivial⟩, ?_⟩))
  simp only [storesP, List.set_cons_zero, List.set_cons_succ]
  refine w_seq (w_for ?_)
  refine w_varL rfl ?_
  refine ⟨fun i η => ∃ (o' : Ow) (rows : List Trip) (last : Int) (a b c : Sl), Pool o' ∧ rows.map (·.1) = ws.take i ∧ η = [.ow o', .va (.lst (ws.map .str)), .va (.int hh), .va (.lst (ps.map .int)), .ow (.l (rows.map rowP)), .va (.int last), a, b, c] ∧ (∀ r ∈ rows, 0 ≤ r.2.1 ∧ r.2.1 < r.2.2 ∧ r.2.2 < 10 ^ 40) ∧ 0 ≤ last ∧ last ≤ hh, ?_, ?_, ?_⟩
  · exact ⟨o1, [], 0, .no, .no, .no, p1, rfl, rfl, fun _ h => (by cases h), by decide, by omega⟩
  · rintro i x η hi ⟨o', rows, last, a, b, c, p', hr, rfl, hb, l0, l1⟩
    rw [List.getElem?_map] at hi
    cases q : ws[i]? with
    | none => rw [q] at hi; cases hi
    | some w =>
      rw [q] at hi; cases hi
      have hil : i < ws.length := (List.getElem?_eq_some_iff.mp q).1
      have hrl : rows.length = i := by have := congrArg List.length hr; rw [List.length_map, List.length_take] at this; omega
      refine w_gname ?_
      simp only [List.set_cons_zero, List.set_cons_succ]
      refine w_seq (w_set (q_draw rfl rfl p' (by decide) (by decide) fun o2 wy p2 wy0 wy1 => ?_))
      simp only [List.set_cons_zero, List.set_cons_succ]
      -- behind begin
      have rest : ∀ (o3 : Ow) (bg : Int), Pool o3 → 0 ≤ bg → bg < hh →
        tSeqP (tSetP 5 (tOpP rAdd (tOpP rAdd (tVarP 8) (tConP (.int 1))) (tCallRP 0 (sp_law_draw K C) (tConsP (tIfP (tBlP (tOpP rGt (tOpP rSub (tVarP 2) (tVarP 8)) (tConP (.int 1)))) (tOpP rIxP (tLstP (tConsP (tConP (.int 1)) (tConsP (tConP (.int 2)) (tConsP (tOpP rSub (tVarP 2) (tVarP 8)) (tConsP (tOpP rSub (tVarP 2) (tVarP 8)) (tNilP)))))) (tVarP 7)) (tConP (.int 1))) (tNilP))))) (tSeqP (tSetP 5 (tCBP rMin2 (tConsP (tVarP 5) (tConsP (tVarP 2) (tNilP))))) (tAppP 4 (tTupP (tConsP (tVarP 6) (tConsP (tOpP rIxP (tVarP 3) (tVarP 8)) (tConsP (tOpP rIxP (tVarP 3) (tVarP 5)) (tNilP)))))))
        { nx := fun η => ∃ (o' : Ow) (rows : List Trip) (last : Int) (a b c : Sl), Pool o' ∧ rows.map (·.1) = ws.take (i + 1) ∧ η = [.ow o', .va (.lst (ws.map .str)), .va (.int hh), .va (.lst (ps.map .int)), .ow (.l (rows.map rowP)), .va (.int last), a, b, c] ∧ (∀ r ∈ rows, 0 ≤ r.2.1 ∧ r.2.1 < r.2.2 ∧ r.2.2 < 10 ^ 40) ∧ 0 ≤ last ∧ last ≤ hh, rt := fun x η' => ∃ o', η'[0]? = some (Sl.ow o') ∧ PR x o' }
        [.ow o3, .va (.lst (ws.map .str)), .va (.int hh), .va (.lst (ps.map .int)), .ow (.l (rows.map rowP)), .va (.int last), .va (.str w), .va (.int wy), .va (.int bg)] := by
        intro o3 bg p3 bg0 bg1
        have fin : ∀ (m : Int), 0 < m → m ≤ 100 → callM 0 (sp_law_draw K C) [.int m] [.ow o3, .va (.lst (ws.map .str)), .va (.int hh), .va (.lst (ps.map .int)), .ow (.l (rows.map rowP)), .va (.int last), .va (.str w), .va (.int wy), .va (.int bg)] fun z η2 => rAdd (.int (bg + 1)) z fun z =>
          tSeqP (tSetP 5 (tCBP rMin2 (tConsP (tVarP 5) (tConsP (tVarP 2) (tNilP))))) (tAppP 4 (tTupP (tConsP (tVarP 6) (tConsP (tOpP rIxP (tVarP 3) (tVarP 8)) (tConsP (tOpP rIxP (tVarP 3) (tVarP 5)) (tNilP))))))
            { nx := fun η => ∃ (o' : Ow) (rows : List Trip) (last : Int) (a b c : Sl), Pool o' ∧ rows.map (·.1) = ws.take (i + 1) ∧ η = [.ow o', .va (.lst (ws.map .str)), .va (.int hh), .va (.lst (ps.map .int)), .ow (.l (rows.map rowP)), .va (.int last), a, b, c] ∧ (∀ r ∈ rows, 0 ≤ r.2.1 ∧ r.2.1 < r.2.2 ∧ r.2.2 < 10 ^ 40) ∧ 0 ≤ last ∧ last ≤ hh, rt := fun x η' => ∃ o', η'[0]? = some (Sl.ow o') ∧ PR x o' } (η2.set 5 (.va z)) := by
          intro m m0 m1
          refine q_callM rfl ⟨m, p3, rfl, m0, by omega, fun o4 d p4 d0 d1 => ?_⟩
          refine q_add ?_
          simp only [List.set_cons_zero, List.set_cons_succ]
          refine w_seq (w_set (w_cb (w_cons (w_var rfl (w_cons (w_var rfl (w_nil (q_min ?_))))))))
          simp only [List.set_cons_zero, List.set_cons_succ]
          obtain ⟨nl, hnl, n0, n1⟩ : ∃ nl : Int, (if hh < bg + 1 + d then hh else bg + 1 + d) = nl ∧ bg < nl ∧ nl ≤ hh := ⟨_, rfl, by split <;> omega, by split <;> omega⟩
          rw [hnl]
          refine w_app (xs := rows.map rowP) rfl (w_tup (w_cons (w_var rfl (w_cons (w_op (w_var rfl (w_var rfl ?_)))))))
          have pll : (ps.length : Int) = hh + 1 := by omega
          refine q_ix (at_map 0 bg0 (by omega)) ?_
          refine w_cons (w_op (w_var rfl (w_var rfl ?_)))
          refine q_ix (at_map 0 (by omega) (by omega)) (w_nil ⟨sz3, ?_⟩)
          refine q_appM rfl (by rw [List.length_map]; omega) ?_
          have ib : bg.toNat < ps.length := by omega
          have ie : nl.toNat < ps.length := by omega
          have eb : ps.getD bg.toNat 0 = ps[bg.toNat] := by rw [List.getD_eq_getElem?_getD, List.getElem?_eq_getElem ib]; rfl
          have ee : ps.getD nl.toNat 0 = ps[nl.toNat] := by rw [List.getD_eq_getElem?_getD, List.getElem?_eq_getElem ie]; rfl
          rw [eb, ee]
          refine ⟨o4, rows ++ [(w, ps[bg.toNat], ps[nl.toNat])], nl, .va (.str w), .va (.int wy), .va (.int bg), p4, ?_, ?_, fun r hr => ?_, by omega, n1⟩
          · rw [List.map_append, hr, List.take_succ, q]; rfl
          · rw [List.map_append]; rfl
          · rcases List.mem_append.mp hr with h | h
            · exact hb r h
            · rw [List.mem_singleton.mp h]
              refine ⟨(pb _ (List.getElem_mem ib)).1, List.pairwise_iff_getElem.mp pw _ _ ib ie (by omega), (pb _ (List.getElem_mem ie)).2⟩
        refine w_seq (w_set (w_op (w_op (w_var rfl (w_con (q_add ?_))))))
        refine w_callR rfl (w_cons (w_ife (w_bl (w_op (w_op (w_var rfl (w_var rfl (q_sub ?_))))))))
        refine w_con (q_gt (q_ite (fun hg => ?_) fun hg => ?_))
        · refine w_op (w_lst (w_cons (w_con (w_cons (w_con ?_)))))
          refine w_cons (w_op (w_var rfl (w_var rfl (q_sub ?_))))
          refine w_cons (w_op (w_var rfl (w_var rfl (q_sub (w_nil ⟨?_, ?_⟩)))))
          · show 4 ≤ sizeLine; omega
          refine w_var rfl ?_
          obtain rfl | rfl | rfl | rfl : wy = 0 ∨ wy = 1 ∨ wy = 2 ∨ wy = 3 := by omega
          · exact q_ix (x := .int 1) rfl (w_nil (fin 1 (by decide) (by decide)))
          · exact q_ix (x := .int 2) rfl (w_nil (fin 2 (by decide) (by decide)))
          · exact q_ix (x := .int (hh - bg)) rfl (w_nil (fin (hh - bg) (by omega) (by omega)))
          · exact q_ix (x := .int (hh - bg)) rfl (w_nil (fin (hh - bg) (by omega) (by omega)))
        · exact w_con (w_nil (fin 1 (by decide) (by decide)))
      refine w_seq (w_set (w_ife (w_and (w_bl (w_op (w_var rfl (w_con (q_eq ?_))))))))
      have els : ∀ Q : PV → EP' → Prop, (∀ (o3 : Ow) (bg : Int), Pool o3 → 0 ≤ bg → bg < hh → Q (.int bg) [.ow o3, .va (.lst (ws.map .str)), .va (.int hh), .va (.lst (ps.map .int)), .ow (.l (rows.map rowP)), .va (.int last), .va (.str w), .va (.int wy), c]) → tCallRP 0 (sp_law_draw K C) (tConsP (tVarP 2) (tNilP)) [.ow o2, .va (.lst (ws.map .str)), .va (.int hh), .va (.lst (ps.map .int)), .ow (.l (rows.map rowP)), .va (.int last), .va (.str w), .va (.int wy), c] Q := by
        intro Q k
        exact w_callR rfl (w_cons (w_var rfl (w_nil (q_callM rfl ⟨hh, p2, rfl, by omega, by omega, fun o3 d p3 d0 d1 => k o3 d p3 d0 d1⟩))))
      refine q_ite (fun hwy => ?_) fun hwy => ?_
      · refine w_bl (w_op (w_var rfl (w_var rfl (q_lt ?_))))
        refine q_ite (fun hlt => ?_) fun hlt => ?_
        · exact w_var rfl (rest o2 last p2 l0 hlt)
        · exact els _ fun o3 bg p3 b0 b1 => rest o3 bg p3 b0 b1
      · refine q_iteF ?_
        exact els _ fun o3 bg p3 b0 b1 => rest o3 bg p3 b0 b1
  · rintro η ⟨o', rows, last, a, b, c, p', hr, rfl, hb, l0, l1⟩
    rw [List.length_map, List.take_length] at hr
    have hrl : rows.length = ws.length := by rw [← hr, List.length_map]
    dsimp only
    refine w_ret ?_
    refine w_cb (w_cons (w_cb (w_cons (w_varO (o := .l (rows.map rowP)) rfl ?_))))
    refine w_nil (q_sort (by rw [hr]; exact hw.2) (by omega) fun rs pm asc => ?_)
    refine w_nil ?_
    have hmem : ∀ r ∈ rs, r.1 ∈ ws := fun r h => by rw [← hr]; exact List.mem_map.mpr ⟨r, pm.mem_iff.mp h, rfl⟩
    refine ⟨o', rfl, hp o' rs p' ⟨by rw [pm.length_eq]; omega, fun r h => ?_, asc⟩ (by rw [pm.length_eq, hrl]) fun r h => ⟨hmem r h, (hb r (pm.mem_iff.mp h)).2.2⟩⟩
    exact ⟨hw.1 _ (hmem r h), (hb r (pm.mem_iff.mp h)).1, (hb r (pm.mem_iff.mp h)).2.1⟩
end
end Z
set_option Elab.async false
set_option linter.all false
set_option maxRecDepth 100000
namespace Z
open PySem PySem.Spec L2
open PyProof.Rows hiding St
section
variable {K : PySem.W.Frag} {C : Addr} {args : List PV} {P : PV → Prop} {PR : PV → Ow → Prop} {PF : List PV → Prop} {o : Ow}
theorem w_drop {te : TEp} {D : EndsP} {η : EP'} (h : te η fun _ η1 => D.nx η1) : tDropP te D η := h
theorem w_fldS {s : Nat} {f : Str} {te : TEp} {D : EndsP} {η : EP'} (h : te η fun x η1 => match η1[s]? with
  | some (.ow (.o C' fs)) => C' = C ∧ fs.length < 1000 ∧ D.nx (η1.set s (.ow (.o C (putFP f x fs))))
  | _ => False) : tFldSP C s f te D η := h
theorem w_sortL {i j : Int} {te : TEp} {η : EP'} {Q : PV → EP' → Prop} (h : te η fun x η1 => match x with
  | .tup xs => (∀ y ∈ xs, ∃ ys a b, y = .tup ys ∧ atI ys i = some a ∧ atI ys j = some b ∧ flatD a = true ∧ flatD b = true) ∧ PySem.W.AllAlike (xs.map (keyP i j)) ∧ xs.length ≤ sizeLine ∧ Q (.lst (xs.mergeSort (PySem.W.dataLe false (keyP i j)))) η1
  | _ => False) : tSortLP i j te η Q := h
theorem pf1 {n : Int} : putFP ("seat_count" : Str) (.int n) [] = [(("seat_count" : Str), .int n)] := rfl
theorem pf2 {n : Int} {x : PV} : putFP ("rows" : Str) x [(("seat_count" : Str), .int n)] = [(("seat_count" : Str), .int n), (("rows" : Str), x)] := by
  unfold putFP
  rw [if_neg (by decide)]
  rfl
theorem pf3 {n : Int} {x y : PV} : putFP ("queue" : Str) y [(("seat_count" : Str), .int n), (("rows" : Str), x)] = [(("seat_count" : Str), .int n), (("rows" : Str), x), (("queue" : Str), y)] := by
  unfold putFP
  rw [if_neg (by decide)]
  unfold putFP
  rw [if_neg (by decide)]
  rfl
theorem rd_Line_init (h : sp_Line_init K C o args PR) : ts_Line_init K C { nx := fun η' => ∃ o', η'[0]? = some (Sl.ow o') ∧ PR .non o', rt := fun x η' => ∃ o', η'[0]? = some (Sl.ow o') ∧ PR x o' } (startR 4 o args) := by
  obtain ⟨n, rs, rfl, rfl, n1, n2, hv, hp⟩ := h
  have e : startR 4 (.o C []) [.int n, rowsP rs] = [.ow (.o C []), .va (.int n), .va (rowsP rs), .no] := rfl
  rw [e]
  have sz : 100 < sizeLine := by decide
  have hl := hv.len
  refine w_seq (w_drop (w_call (w_cons (w_var rfl (w_nil ⟨n, rfl, n1, n2, ?_⟩)))))
  dsimp only
  refine w_seq (w_if (w_not (w_bl (w_cb (w_cons (w_var (x := .tup (rs.map rowP)) rfl (w_cons (w_con (w_nil (isi_tuple .t ?_))))))))))
  refine q_iteF ?_
  refine w_next ?_
  dsimp only
  refine w_seq (w_set (w_call (w_cons (w_var rfl (w_nil ⟨rs, rfl, hv, ?_⟩)))))
  simp only [List.set_cons_zero, List.set_cons_succ]
  refine w_seq (w_if (w_bl (w_op (w_var rfl (w_cb (w_cons (w_var (x := .tup (rs.map rowP)) rfl (w_nil (q_lenT (q_lt ?_))))))))))
  refine q_ite (fun z => ?_) fun _ => ?_
  · rw [List.length_map] at z; omega
  refine w_next ?_
  dsimp only
  refine w_seq (w_fldS (w_var rfl ⟨rfl, by decide, ?_⟩))
  simp only [List.set_cons_zero, List.set_cons_succ, pf1]
  refine w_seq (w_fldS (w_var rfl ⟨rfl, by show 1 < 1000; decide, ?_⟩))
  simp only [List.set_cons_zero, List.set_cons_succ, pf2]
  refine w_fldS (w_cb (w_cons (w_sortL (w_var (x := .tup (rs.map rowP)) rfl ⟨?_, ?_, by rw [List.length_map]; omega, ?_⟩))))
  · intro y hy
    obtain ⟨r, _, rfl⟩ := List.mem_map.mp hy
    exact ⟨_, .int r.2.1, .str r.1, rfl, rfl, rfl, rfl, rfl⟩
  · intro d hd d' hd'
    rw [List.map_map] at hd hd'
    obtain ⟨a, _, rfl⟩ := List.mem_map.mp hd
    obtain ⟨b, _, rfl⟩ := List.mem_map.mp hd'
    show PySem.W.alike (.tuple [.int a.2.1, .str a.1]) (.tuple [.int b.2.1, .str b.1]) = true
    simp [PySem.W.alike, PySem.W.alikeAll]
  · refine w_nil ⟨rfl, by show 2 < 1000; decide, ?_⟩
    simp only [List.set_cons_zero, List.set_cons_succ, pf3]
    exact ⟨_, rfl, hp⟩
end
end Z
set_option Elab.async false
set_option linter.all false
set_option maxRecDepth 100000
namespace Z
open PySem PySem.Spec L2
open PyProof.Rows hiding St
def Near (rs : List Trip) : Prop := ∀ r ∈ rs, r.2.2 < 10 ^ 60
section
variable {K : PySem.W.Frag} {C : Addr} {args : List PV} {P : PV → Prop} {PR : PV → Ow → Prop} {o : Ow}
/-! ### data of rows -/
theorem rw_good {rs : List Trip} (h : Rw rs) : ∀ r ∈ rs, GoodR r := fun r hr => by
  obtain ⟨h1, h2, h3⟩ := h.each r hr
  refine ⟨fun c hc => ?_, h2, by omega⟩
  have e : (decide (1 ≤ r.1.length) && (decide (r.1.length ≤ 8) && r.1.cps.toList.all fun c => decide (c ∈ abc.cps.toList))) = true := h1
  have m := List.all_eq_true.mp (Bool.and_eq_true_iff.mp (Bool.and_eq_true_iff.mp e).2).2 c hc
  have m2 : c ∈ abc.cps.toList := of_decide_eq_true m
  have all : ∀ d ∈ abc.cps.toList, 97 ≤ d ∧ d ≤ 122 := by decide +kernel
  exact all c m2
theorem toD_row (r : Trip) : toD (rowP r) = some (rowE r) := by
  unfold rowP rowE
  simp only [toD, toDs, Option.map]
theorem toDs_rowsE : ∀ rs : List Trip, toDs (rs.map rowP) = some (rs.map rowE)
  | [] => by simp only [List.map_nil, toDs]
  | r :: rs => by
    rw [List.map_cons, List.map_cons, toDs, toD_row, toDs_rowsE rs]
theorem toD_rows (rs : List Trip) : toD (rowsP rs) = some (.tuple (rs.map rowE)) := by
  unfold rowsP
  rw [toD, toDs_rowsE]
  rfl
theorem canLay_row {r : Trip} (h : GoodR r) : PyData.canLay0 (rowE r) = true := by
  unfold rowE
  simp only [PyData.canLay0, PyData.canLayAll0, Bool.and_true]
  unfold PyData.strOk
  rw [← Array.all_toList]
  exact List.all_eq_true.mpr fun c hc => by
    have := h.low c hc
    exact decide_eq_true (by omega)
theorem canLay_rows : ∀ {rs : List Trip}, (∀ r ∈ rs, GoodR r) → PyData.canLayAll0 (rs.map rowE) = true
  | [], _ => rfl
  | r :: rs, h => by
    rw [List.map_cons, PyData.canLayAll0, canLay_row (h r List.mem_cons_self), canLay_rows fun q hq => h q (List.mem_cons_of_mem _ hq)]
    rfl
theorem depth_rows : ∀ rs : List Trip, PyData.depthAll (rs.map rowE) ≤ 1
  | [] => by simp [PyData.depthAll]
  | r :: rs => by
    have e : PyData.depth (rowE r) = 1 := by
      unfold rowE
      simp [PyData.depth, PyData.depthAll]
    have := depth_rows rs
    rw [List.map_cons, PyData.depthAll, e]
    omega
theorem shaped_rows {rs : List Trip} (h : ∀ r ∈ rs, GoodR r) : SeqAt.shaped (.tuple (rs.map rowE)) = true := by
  unfold SeqAt.shaped
  have := depth_rows rs
  rw [PyData.canLay0, canLay_rows h, Bool.true_and]
  refine decide_eq_true ?_
  rw [PyData.depth]
  omega
theorem eqv_row (r u : Trip) : PyData.eqv (rowE r) (rowE u) = decide (r = u) := by
  obtain ⟨x, s, t⟩ := r
  obtain ⟨x', s', t'⟩ := u
  unfold rowE
  simp only [PyData.eqv, PyData.eqvAll, Bool.and_true]
  rw [Bool.eq_iff_iff]
  simp
theorem eqv_rows : ∀ rs us : List Trip, PyData.eqvAll (rs.map rowE) (us.map rowE) = decide (rs = us)
  | [], [] => rfl
  | [], _ :: _ => rfl
  | _ :: _, [] => rfl
  | r :: rs, u :: us => by
    rw [List.map_cons, List.map_cons, PyData.eqvAll, eqv_row, eqv_rows rs us, Bool.eq_iff_iff]
    simp
theorem q_eqRows {rs us : List Trip} (hr : ∀ r ∈ rs, GoodR r) (hu : ∀ r ∈ us, GoodR r) (h : P (.bl (decide (rs = us)))) : rEqP false (rowsP rs) (rowsP us) P :=
  ⟨_, _, toD_rows rs, toD_rows us, shaped_rows hr, shaped_rows hu, by rw [if_neg (by simp), show PyData.eqv (.tuple (rs.map rowE)) (.tuple (us.map rowE)) = PyData.eqvAll (rs.map rowE) (us.map rowE) by simp only [PyData.eqv], eqv_rows]; exact h⟩
theorem q_neRows {rs us : List Trip} (hr : ∀ r ∈ rs, GoodR r) (hu : ∀ r ∈ us, GoodR r) (h : P (.bl (!decide (rs = us)))) : rEqP true (rowsP rs) (rowsP us) P :=
  ⟨_, _, toD_rows rs, toD_rows us, shaped_rows hr, shaped_rows hu, by rw [if_pos rfl, show PyData.eqv (.tuple (rs.map rowE)) (.tuple (us.map rowE)) = PyData.eqvAll (rs.map rowE) (us.map rowE) by simp only [PyData.eqv], eqv_rows]; exact h⟩
/-! what repr shows of rows -/
theorem log_of {i : Int} (h0 : 0 ≤ i) (h : i < 10 ^ 70) : i.natAbs.log2 < 1920 := by
  obtain ⟨n, rfl⟩ := Int.eq_ofNat_of_zero_le h0
  have h2 : n < 10 ^ 70 := by omega
  show n.log2 < 1920
  by_cases hn : n = 0
  · subst hn; decide
  · exact (Nat.log2_lt hn).mpr (Nat.lt_of_lt_of_le h2 (by decide +kernel))
structure ShowR (r : Trip) : Prop where
  g : GoodR r
  l : r.1.length ≤ 8
  s : r.2.1 < 10 ^ 70
  e : r.2.2 < 10 ^ 70
theorem rw_show {rs : List Trip} (h : Rw rs) (hn : Near rs) : ∀ r ∈ rs, ShowR r := fun r hr => by
  obtain ⟨h1, h2, h3⟩ := h.each r hr
  have h4 := hn r hr
  have e : (decide (1 ≤ r.1.length) && (decide (r.1.length ≤ 8) && r.1.cps.toList.all fun c => decide (c ∈ abc.cps.toList))) = true := h1
  exact ⟨rw_good h r hr, of_decide_eq_true (Bool.and_eq_true_iff.mp (Bool.and_eq_true_iff.mp e).2).1, by omega, by omega⟩
theorem leaves_int {i : Int} (h0 : 0 ≤ i) (h : i < 10 ^ 70) : PyData.leavesShort 1921 (.int i) = true := by
  rw [PyData.leavesShort]
  exact decide_eq_true (by rw [PyData.shown_int]; exact int_text_len_1921 (log_of h0 h))
theorem row_facts {r : Trip} (h : ShowR r) : PyData.leavesShort 1921 (rowE r) = true ∧ PyData.showable (rowE r) = true ∧ PyData.hasDict (rowE r) = false ∧ PyData.bulk (rowE r) ≤ 11 := by
  obtain ⟨g, l, s, e⟩ := h
  have s0 := g.s0
  have e0 := g.e0
  unfold rowE
  refine ⟨?_, ?_, by simp [PyData.hasDict, PyData.hasDictAll], ?_⟩
  · rw [PyData.leavesShort, PyData.leavesShortAll, PyData.leavesShortAll, PyData.leavesShortAll, leaves_int s0 s, leaves_int e0 e, PyData.leavesShortAll, PyData.leavesShort]
    simp only [Bool.and_true]
    exact List.all_eq_true.mpr fun c hc => decide_eq_true (by have := g.low c hc; omega)
  · simp only [PyData.showable, PyData.showableAll, Bool.true_and, Bool.and_true, Bool.and_eq_true, decide_eq_true_eq]
    exact ⟨log_of s0 s, log_of e0 e⟩
  · have l2 : r.1.cps.size ≤ 8 := l
    simp only [PyData.bulk, PyData.bulkAll]
    omega
theorem rows_facts : ∀ {rs : List Trip}, (∀ r ∈ rs, ShowR r) → PyData.leavesShortAll 1921 (rs.map rowE) = true ∧ PyData.showableAll (rs.map rowE) = true ∧ PyData.hasDictAll (rs.map rowE) = false ∧ PyData.bulkAll (rs.map rowE) ≤ 12 * rs.length
  | [], _ => ⟨rfl, rfl, rfl, by simp [PyData.bulkAll]⟩
  | r :: rs, h => by
    obtain ⟨a1, a2, a3, a4⟩ := row_facts (h r List.mem_cons_self)
    obtain ⟨b1, b2, b3, b4⟩ := rows_facts fun q hq => h q (List.mem_cons_of_mem _ hq)
    rw [List.map_cons, PyData.leavesShortAll, PyData.showableAll, PyData.hasDictAll, PyData.bulkAll, a1, a2, a3, b1, b2, b3, List.length_cons]
    exact ⟨rfl, rfl, rfl, by omega⟩
theorem fit_shown {d : PyData} {n : Nat} (h : PyData.leavesShort 1921 d = true) (hb : PyData.bulk d ≤ n) (hn : n ≤ 1000) : d.shown.length ≤ sizeLine := by
  have h1 := PyData.shown_le_bulk 1921 (by decide) d h
  have h2 : (1921 + 2) * d.bulk ≤ 1923 * 1000 := Nat.mul_le_mul_left _ (Nat.le_trans hb hn)
  have h3 : 1923 * 1000 + 1921 ≤ sizeLine := by decide
  omega
theorem q_reprRows {rs : List Trip} (h : ∀ r ∈ rs, ShowR r) (hl : rs.length ≤ 24) (hp : P (.str (PyData.tuple (rs.map rowE)).shown)) : rRepr [rowsP rs] P := by
  obtain ⟨a1, a2, a3, a4⟩ := rows_facts h
  have hd := depth_rows rs
  refine ⟨_, toD_rows rs, by rw [PyData.showable]; exact a2, by rw [PyData.hasDict]; exact a3, by rw [PyData.depth]; omega, fit_shown (n := 300) (by rw [PyData.leavesShort]; exact a1) (by rw [PyData.bulk]; omega) (by decide), hp⟩
theorem q_reprPair {n : Int} {rs : List Trip} (h0 : 0 ≤ n) (h1 : n ≤ 20) (h : ∀ r ∈ rs, ShowR r) (hl : rs.length ≤ 24) (hp : P (.str (pairD n rs).shown)) : rRepr [.tup [.int n, rowsP rs]] P := by
  obtain ⟨a1, a2, a3, a4⟩ := rows_facts h
  have hd := depth_rows rs
  have b1 : (10 : Int) ^ 70 > 20 := by decide
  refine ⟨pairD n rs, by rw [toD, toDs, toDs, toDs, toD_rows, toD]; rfl, ?_, ?_, ?_, fit_shown (n := 400) ?_ ?_ (by decide), hp⟩
  · unfold pairD; rw [PyData.showable, PyData.showableAll, PyData.showableAll, PyData.showable, PyData.showable, a2, decide_eq_true (log_of h0 (by omega))]; rfl
  · unfold pairD; rw [PyData.hasDict, PyData.hasDictAll, PyData.hasDictAll, PyData.hasDict, PyData.hasDict, a3]; rfl
  · unfold pairD; simp only [PyData.depth, PyData.depthAll]; omega
  · unfold pairD; rw [PyData.leavesShort, PyData.leavesShortAll, PyData.leavesShortAll, leaves_int h0 (by omega), PyData.leavesShort, a1]; rfl
  · unfold pairD; simp only [PyData.bulk, PyData.bulkAll]; omega
def pairL (n : Int) (rs : List Trip) : PyData := .list [.int n, .tuple (rs.map rowE)]
theorem q_reprLst {n : Int} {rs : List Trip} (h0 : 0 ≤ n) (h1 : n ≤ 20) (h : ∀ r ∈ rs, ShowR r) (hl : rs.length ≤ 24) (hp : P (.str (pairL n rs).shown)) : rRepr [.lst [.int n, rowsP rs]] P := by
  obtain ⟨a1, a2, a3, a4⟩ := rows_facts h
  have hd := depth_rows rs
  have b1 : (10 : Int) ^ 70 > 20 := by decide
  refine ⟨pairL n rs, by rw [toD, toDs, toDs, toDs, toD_rows, toD]; rfl, ?_, ?_, ?_, fit_shown (n := 400) ?_ ?_ (by decide), hp⟩
  · unfold pairL; rw [PyData.showable, PyData.showableAll, PyData.showableAll, PyData.showable, PyData.showable, a2, decide_eq_true (log_of h0 (by omega))]; rfl
  · unfold pairL; rw [PyData.hasDict, PyData.hasDictAll, PyData.hasDictAll, PyData.hasDict, PyData.hasDict, a3]; rfl
  · unfold pairL; simp only [PyData.depth, PyData.depthAll]; omega
  · unfold pairL; rw [PyData.leavesShort, PyData.leavesShortAll, PyData.leavesShortAll, leaves_int h0 (by omega), PyData.leavesShort, a1]; rfl
  · unfold pairL; simp only [PyData.bulk, PyData.bulkAll]; omega
end
end Z
set_option Elab.async false
set_option linter.all false
set_option maxRecDepth 100000
namespace Z
open PySem PySem.Spec L2
open PyProof.Rows hiding St
section
variable {K : PySem.W.Frag} {C : Addr} {args : List PV} {P : PV → Prop} {PR : PV → Ow → Prop} {o : Ow}
theorem w_fld {f : Str} {te : TEp} {η : EP'} {Q : PV → EP' → Prop} (h : te η fun x η1 => match x with
  | .ins C' fs => C' = C ∧ ∃ y, fs.lookup f = some y ∧ Q y η1
  | _ => False) : tFldP C f te η Q := h
theorem w_andV {ta tb : TEp} {η : EP'} {Q : PV → EP' → Prop} (h : ta η fun x η1 => match x with | .bl true => tb η1 Q | .bl false => Q (.bl false) η1 | _ => False) : tAndVP ta tb η Q := h
theorem w_itup {te : TEp} {η : EP'} {Q : List PV → EP' → Prop} (h : te η fun x η1 => match x with
  | .tup xs => Q xs η1
  | _ => False) : iTupP te η Q := h
theorem w_istr {te : TEp} {η : EP'} {Q : List PV → EP' → Prop} (h : te η fun x η1 => match x with
  | .str z => Q (z.cps.toList.map fun c => .str ⟨#[c]⟩) η1
  | _ => False) : iStrP te η Q := h
theorem w_star {te : TEp} {t : TAp} {η : EP'} {Q : List PV → EP' → Prop} (h : te η fun x η1 => match x with
  | .lst xs => t η1 fun ys η2 => Q (xs ++ ys) η2
  | .tup xs => t η1 fun ys η2 => Q (xs ++ ys) η2
  | _ => False) : tStarP te t η Q := h
theorem w_fmt {te : TEp} {η : EP'} {Q : PV → EP' → Prop} (h : te η fun x η1 => match x with
  | .str y => y.length ≤ sizeLine ∧ Q (.str y) η1
  | .int i => i.natAbs.log2 < 1920 ∧ Q (.str (toString i)) η1
  | _ => False) : tFmtP te η Q := h
theorem w_js {ts : List TEp} {η : EP'} {Q : PV → EP' → Prop} (h : tJsP ts Str.empty η fun out η' => Q (.str out) η') : tJoinedP ts η Q := h
theorem w_js0 {acc : Str} {η : EP'} {Q : Str → EP' → Prop} (h : Q acc η) : tJsP [] acc η Q := h
theorem w_js1 {t : TEp} {ts : List TEp} {acc : Str} {η : EP'} {Q : Str → EP' → Prop} (h : t η fun x η1 => ∃ y : Str, x = .str y ∧ (acc ++ y).length ≤ sizeLine ∧ tJsP ts (acc ++ y) η1 Q) : tJsP (t :: ts) acc η Q := h
theorem w_eqO {sp : SpP} {neg : Bool} {ta tb : TEp} {η : EP'} {Q : PV → EP' → Prop} (h : ta η fun x η1 => tb η1 fun y η2 => (∃ fs, x = .ins C fs) ∧ EqTy K C y ∧ sp [x, y] fun z => ∃ b, z = .bl b ∧ Q (.bl (b != neg)) η2) : tEqOP K C sp neg ta tb η Q := h
theorem w_lenO {sp : SpP} {t : TAp} {η : EP'} {Q : PV → EP' → Prop} (h : t η fun xs η1 => ∃ fs, xs = [.ins C fs] ∧ sp [.ins C fs] fun z => ∃ n : Int, z = .int n ∧ (0 ≤ n ∧ n < 2 ^ 63) ∧ Q (.int n) η1) : tLenOP C sp t η Q := h
theorem w_boolO {sp : SpP} {t : TAp} {η : EP'} {Q : PV → EP' → Prop} (h : t η fun xs η1 => ∃ fs, xs = [.ins C fs] ∧ sp [.ins C fs] fun z => ∃ n : Int, z = .int n ∧ (0 ≤ n ∧ n < 2 ^ 63) ∧ Q (.bl (n != 0)) η1) : tBoolOP C sp t η Q := h
theorem w_strO {sp : SpP} {t : TAp} {η : EP'} {Q : PV → EP' → Prop} (h : t η fun xs η1 => ∃ fs, xs = [.ins C fs] ∧ sp [.ins C fs] fun z => (∃ y, z = .str y) ∧ Q z η1) : tStrOP C sp t η Q := h
theorem w_newK {sr : SpR} {m : Nat} {perm : List PV → List PV} {tk : TAp} {η : EP'} {Q : PV → EP' → Prop} (h : tk η fun zs η1 => zs.length = m ∧ sr (.o C []) (perm zs) fun r o' => r = .non ∧ ∃ fs, o' = .o C fs ∧ Q (.ins C fs) η1) : tNewKP C sr m perm tk η Q := h
theorem w_new' {sr : SpR} {dps : List PV} {t : TAp} {η : EP'} {Q : PV → EP' → Prop} (h : t η fun args η1 => sr (.o C []) (args ++ dps) fun r o' => r = .non ∧ ∃ fs, o' = .o C fs ∧ Q (.ins C fs) η1) : tNewP C sr dps t η Q := h
theorem w_prop' {sp : SpP} {ta : TEp} {η : EP'} {Q : PV → EP' → Prop} (h : ta η fun x η1 => (∃ fs, x = .ins C fs) ∧ sp [x] fun z => Q z η1) : tPropP C sp ta η Q := h
theorem w_sliceA {te : TEp} {tl th : TOp} {η : EP'} {Q : PV → EP' → Prop} (h : te η fun x η1 => tl η1 fun l η2 => th η2 fun u η3 => rSlA x l u fun z => Q z η3) : tSliceAP te tl th η Q := h
theorem w_neg' {te : TEp} {η : EP'} {Q : PV → EP' → Prop} (h : te η fun x η1 => match x with | .int i => Q (.int (-i)) η1 | _ => False) : tNegP te η Q := h
theorem q_neI {a b : Str} (h : P (.bl (!decide (a = b)))) : rEqI true (.str a) (.str b) P := h
theorem q_eqI {a b : Str} (h : P (.bl (decide (a = b)))) : rEqI false (.str a) (.str b) P := h
theorem q_neN {a b : Int} (h : P (.bl (!decide (a = b)))) : rEqI true (.int a) (.int b) P := h
theorem q_neB {a b : Bool} (h : P (.bl (!decide (a = b)))) : rEqI true (.bl a) (.bl b) P := h
theorem q_eqB {a b : Bool} (h : P (.bl (decide (a = b)))) : rEqI false (.bl a) (.bl b) P := h
theorem q_isC {y : PV} {Q : PV → Prop} (hC : ClsT K C) (ht : (tyN y).isSome = true) (h : Q (.bl false)) : rIsI K [y, .raw (.ref C)] Q := by
  cases y with
  | ins => cases ht
  | raw => cases ht
  | _ => exact ⟨hC, by decide, h⟩
theorem w_dic0' {η : EP'} {Q : PV → EP' → Prop} (h : Q .dic0 η) : tDic0P η Q := h
theorem len_app (a b : Str) : (a ++ b).length = a.length + b.length := Str.length_append a b
theorem strsOf_mapS : ∀ ys : List Str, strsOf (ys.map .str) = some ys
  | [] => rfl
  | y :: ys => by rw [List.map_cons, strsOf, strsOf_mapS ys]; rfl
theorem sum_le : ∀ {ys : List Str}, (∀ y ∈ ys, y.length ≤ 4000) → (ys.map (·.length)).sum ≤ 4000 * ys.length
  | [], _ => by simp
  | y :: ys, h => by
    have := h y List.mem_cons_self
    have := sum_le (ys := ys) fun z hz => h z (List.mem_cons_of_mem _ hz)
    rw [List.map_cons, List.sum_cons, List.length_cons]
    omega
theorem w_g3 {a b c : PV} {i j k : Nat} {η : EP'} {R : EP' → Prop} (h : R (((η.set i (.va a)).set j (.va b)).set k (.va c))) : gConsP (gNameP i) (gConsP (gNameP j) (gConsP (gNameP k) (gNilP))) [a, b, c] η R := ⟨rfl, h⟩
theorem w_g2 {a b : PV} {i j : Nat} {η : EP'} {R : EP' → Prop} (h : R ((η.set i (.va a)).set j (.va b))) : gConsP (gNameP i) (gConsP (gNameP j) (gNilP)) [a, b] η R := ⟨rfl, h⟩
theorem eqTy_line {n : Int} {rs : List Trip} : EqTy K C (lineP C n rs) := .inr ⟨_, rfl⟩
theorem q_addLL {xs ys : List PV} {Q : PV → Prop} (l : xs.length + ys.length ≤ sizeLine) (h : Q (.lst (xs ++ ys))) : rAdd (.lst xs) (.lst ys) Q := ⟨l, h⟩
theorem at_rep {x : PV} {k : Nat} {i : Int} (h1 : -(k : Int) ≤ i) (h2 : i < k) : atI (List.replicate k x) i = some x := by
  unfold atI
  rw [List.length_replicate]
  unfold ixN
  by_cases h : 0 ≤ i
  · rw [if_pos h, if_pos h2]
    show (List.replicate k x)[i.toNat]? = some x
    rw [List.getElem?_replicate, if_pos (by omega)]
  · rw [if_neg h, if_pos h1]
    show (List.replicate k x)[(i + k).toNat]? = some x
    rw [List.getElem?_replicate, if_pos (by omega)]
theorem rw_sub {us rs : List Trip} (s : us.Sublist rs) (h : Rw rs) : Rw us := ⟨Nat.le_trans s.length_le h.len, fun r hr => h.each r (s.subset hr), h.asc.sublist s⟩
theorem near_sub {us rs : List Trip} (s : us.Sublist rs) (h : Near rs) : Near us := fun r hr => h r (s.subset hr)
theorem cut_rows (rs : List Trip) (lo hi : Option Int) : ∃ us : List Trip, us.Sublist rs ∧ cutP (rs.map rowP) lo hi = us.map rowP := by
  refine ⟨(rs.drop (HT.sIx (rs.map rowP).length 0 lo)).take (HT.sIx (rs.map rowP).length (rs.map rowP).length hi - HT.sIx (rs.map rowP).length 0 lo), (List.take_sublist _ _).trans (List.drop_sublist _ _), ?_⟩
  unfold cutP
  rw [← List.map_drop, ← List.map_take]
theorem q_slA {xs : List PV} {lo hi : Option Int} {Q : PV → Prop} (h : Q (.tup (cutP xs lo hi))) : rSlA (.tup xs) lo hi Q := h
theorem all_true : ∀ n : Nat, blsOf (List.replicate n (.bl true)) = some (List.replicate n true)
  | 0 => rfl
  | n + 1 => by rw [List.replicate_succ, blsOf, all_true n]; rfl
theorem w_setF {i : Nat} {tf : TFp} {D : EndsP} {η : EP'} (h0 : (0 : Nat) ≠ i) (h : tf η fun xs η1 => i < η1.length ∧ D.nx (η1.set i (.ow (.l xs)))) : tSetFP i tf D η := ⟨h0, h⟩
theorem w_callRF' {tf : TFp} {sr : SpR} {t : TAp} {η : EP'} {Q : PV → EP' → Prop} (h : tf η fun xs η1 => t η1 fun args η2 => sr (.l xs) args fun z _ => Q z η2) : tCallRFP tf sr t η Q := h
theorem w_callF' {sp : SpF} {t : TAp} {η : EP'} {Q : List PV → EP' → Prop} (h : t η fun args η1 => sp args fun xs => Q xs η1) : tCallFP sp t η Q := h
theorem q_tupl {xs : List PV} {Q : PV → Prop} (h : Q (.tup xs)) : rTuple [.lst xs] Q := h
end
end Z
set_option Elab.async false
set_option linter.all false
set_option maxRecDepth 100000
namespace Z
open PySem PySem.Spec L2
open PyProof.Rows hiding St
/-! ### what the views of a line are -/
def passes (st : Int) (r : Trip) : Bool := decide (r.2.1 ≤ st) && decide (st < r.2.2)
def loadN (rs : List Trip) (st : Int) : Int := ((rs.filter (passes st)).length : Int)
def qLe (a b : Trip) : Bool := PySem.W.dataLe false (keyP 1 0) (rowP a) (rowP b)
def queueT (rs : List Trip) : List Trip := rs.mergeSort qLe
theorem queue_eq (rs : List Trip) : queueP rs = .tup ((queueT rs).map rowP) := by
  unfold queueP queueT
  have e := List.map_mergeSort (r := qLe) (s := PySem.W.dataLe false (keyP 1 0)) (f := rowP) (l := rs) fun a _ b _ => rfl
  rw [e]
theorem queue_perm (rs : List Trip) : (queueT rs).Perm rs := List.mergeSort_perm _ _
theorem queue_len (rs : List Trip) : (queueT rs).length = rs.length := (queue_perm rs).length_eq
def rowS (r : Trip) : Str := Str.empty ++ r.1 ++ ((":" : String) : Str) ++ ((toString r.2.1 : String) : Str) ++ (("-" : String) : Str) ++ ((toString r.2.2 : String) : Str)
def textS (n : Int) (rs : List Trip) : Str := Txt.join ((" " : String) : Str) (((toString n : String) : Str) :: rs.map rowS)
def reprS (n : Int) (rs : List Trip) : Str := Str.empty ++ (("Line('" : String) : Str) ++ textS n rs ++ (("')" : String) : Str)
def peakI (rs : List Trip) : Int := maxI 0 (rs.map fun r => loadN rs r.2.1)
def restR (rs : List Trip) (ws : List Str) : List Trip := rs.filter fun r => !decide (r.1 ∈ ws)
def showsD (n : Int) (rs : List Trip) : PyData := .list ([.int n, .tuple (rs.map rowE), .tuple ((queueT rs).map fun r => .str r.1), .int (peakI rs), .int (rs.length : Int), .bool ((rs.length : Int) != 0), .str (textS n rs), .str (reprS n rs)] ++ [.list ((queueT rs).map rowE), .int (loadN rs 0), .int (loadN rs 7)])
def showsV (n : Int) (rs : List Trip) : List PV := [.int n, rowsP rs, .tup ((queueT rs).map fun r => .str r.1), .int (peakI rs), .int (rs.length : Int), .bl ((rs.length : Int) != 0), .str (textS n rs), .str (reprS n rs)]
def showsW (rs : List Trip) : List PV := [.lst ((queueT rs).map rowP), .int (loadN rs 0), .int (loadN rs 7)]
/-! bounds -/
theorem int_short {i : Int} (h0 : 0 ≤ i) (h : i < 10 ^ 60) : ((toString i : String) : Str).length ≤ 61 := by
  have e := int_text_length_le10 (a := i) (k := 60) (by decide) (by
    obtain ⟨n, rfl⟩ := Int.eq_ofNat_of_zero_le h0
    have : n < 10 ^ 60 := by omega
    exact this)
  rw [PySem.ofString_length]
  exact e
structure Short (r : Trip) : Prop where
  g : GoodR r
  l : r.1.length ≤ 8
  s : r.2.1 < 10 ^ 60
  e : r.2.2 < 10 ^ 60
theorem rw_short {rs : List Trip} (h : Rw rs) (hn : Near rs) : ∀ r ∈ rs, Short r := fun r hr => by
  obtain ⟨g, l, _, _⟩ := rw_show h hn r hr
  obtain ⟨h1, h2, h3⟩ := h.each r hr
  have h4 := hn r hr
  exact ⟨g, l, by omega, h4⟩
theorem rowS_len {r : Trip} (h : Short r) : (rowS r).length ≤ 132 := by
  have b1 := int_short h.g.s0 h.s
  have b2 := int_short h.g.e0 h.e
  have l := h.l
  have c1 : ((":" : String) : Str).length = 1 := rfl
  have c2 : (("-" : String) : Str).length = 1 := rfl
  have c0 : (Str.empty).length = 0 := rfl
  unfold rowS
  rw [len_app, len_app, len_app, len_app, len_app]
  omega
theorem joined_len {m k : Nat} {sep : Str} (hs : sep.length = k) : ∀ {l : List Str}, (∀ x ∈ l, x.length ≤ m) → (Str.join sep l).length ≤ (m + k) * l.length
  | [], _ => by show 0 ≤ _; omega
  | [x], h => by
    have := h x List.mem_cons_self
    show x.length ≤ (m + k) * 1
    omega
  | x :: y :: r, h => by
    have h1 := h x List.mem_cons_self
    have h2 := joined_len hs (l := y :: r) fun a ha => h a (List.mem_cons_of_mem _ ha)
    show (x ++ sep ++ Str.join sep (y :: r)).length ≤ _
    rw [len_app, len_app, List.length_cons, Nat.mul_add]
    omega
theorem textS_len {n : Int} {rs : List Trip} (h0 : 0 ≤ n) (h1 : n ≤ 20) (h : ∀ r ∈ rs, Short r) (hl : rs.length ≤ 24) : (textS n rs).length ≤ 3325 := by
  have h20 : (20 : Int) < 10 ^ 60 := by decide
  have b0 := int_short (i := n) h0 (by omega)
  have hs : ((" " : String) : Str).length = 1 := rfl
  have e : textS n rs = Str.join ((" " : String) : Str) (((toString n : String) : Str) :: rs.map rowS) := by
    unfold textS
    show Builtin.Str.glued _ _ = _
    rw [StrLaws.glued_eq_join]
  rw [e]
  have := joined_len (m := 132) hs (l := ((toString n : String) : Str) :: rs.map rowS) fun x hx => by
    rcases List.mem_cons.mp hx with rfl | hx
    · omega
    · obtain ⟨r, hr, rfl⟩ := List.mem_map.mp hx
      exact rowS_len (h r hr)
  rw [List.length_cons, List.length_map] at this
  omega
theorem reprS_len {n : Int} {rs : List Trip} (h0 : 0 ≤ n) (h1 : n ≤ 20) (h : ∀ r ∈ rs, Short r) (hl : rs.length ≤ 24) : (reprS n rs).length ≤ 3333 := by
  have := textS_len h0 h1 h hl
  have c1 : (("Line('" : String) : Str).length = 6 := rfl
  have c2 : (("')" : String) : Str).length = 2 := rfl
  have c0 : (Str.empty).length = 0 := rfl
  unfold reprS
  rw [len_app, len_app, len_app]
  omega
/-! signs -/
def Small (z : Str) : Prop := ∀ c ∈ z.cps.toList, c < 16 ^ 8
theorem small_app {a b : Str} (ha : Small a) (hb : Small b) : Small (a ++ b) := by
  intro c hc
  rw [PySem.Str.cps_append, Array.toList_append, List.mem_append] at hc
  rcases hc with hc | hc
  · exact ha c hc
  · exact hb c hc
theorem small_of (s : String) : Small (s : Str) := by
  intro c hc
  have e : (s : Str) = ⟨(s.toList.map Char.toNat).toArray⟩ := Str.ofString_eq_toList s
  rw [e] at hc
  simp only at hc
  obtain ⟨d, _, rfl⟩ := List.mem_map.mp hc
  have h1 : (1114112 : Nat) < 16 ^ 8 := by decide
  have h2 : d.toNat < 1114112 := by
    rcases d.valid with h | h
    · have : d.val.toNat < 0xd800 := h
      show d.val.toNat < _
      omega
    · exact h.2
  omega
theorem small_empty : Small Str.empty := by
  intro c hc
  simp [PySem.Str.empty] at hc
theorem small_join {sep : Str} (hs : Small sep) : ∀ l : List Str, (∀ a ∈ l, Small a) → Small (Str.join sep l)
  | [], _ => small_empty
  | [x], h => h x (List.mem_cons_self ..)
  | x :: y :: r, h => by
    show Small (x ++ sep ++ Str.join sep (y :: r))
    exact small_app (small_app (h x (List.mem_cons_self ..)) hs) (small_join hs (y :: r) fun a ha => h a (List.mem_cons_of_mem _ ha))
theorem small_name {r : Trip} (g : GoodR r) : Small r.1 := fun c hc => by
  have := g.low c hc
  have h1 : (122 : Nat) < 16 ^ 8 := by decide
  omega
theorem small_text {n : Int} {rs : List Trip} (h : ∀ r ∈ rs, Short r) : Small (textS n rs) := by
  have e : textS n rs = Str.join ((" " : String) : Str) (((toString n : String) : Str) :: rs.map rowS) := by
    unfold textS
    show Builtin.Str.glued _ _ = _
    rw [StrLaws.glued_eq_join]
  rw [e]
  refine small_join (small_of _) _ fun x hx => ?_
  rcases List.mem_cons.mp hx with rfl | hx
  · exact small_of _
  · obtain ⟨r, hr, rfl⟩ := List.mem_map.mp hx
    exact small_app (small_app (small_app (small_app (small_app small_empty (small_name (h r hr).g)) (small_of _)) (small_of _)) (small_of _)) (small_of _)
theorem small_repr {n : Int} {rs : List Trip} (h : ∀ r ∈ rs, Short r) : Small (reprS n rs) := small_app (small_app (small_app small_empty (small_of _)) (small_text h)) (small_of _)
theorem leavesS {B : Nat} {z : Str} (h : Small z) : PyData.leavesShort B (.str z) = true := by
  rw [PyData.leavesShort]
  exact List.all_eq_true.mpr fun c hc => decide_eq_true (h c hc)
theorem leavesI {i : Int} (h0 : 0 ≤ i) (h : i < 10 ^ 60) : PyData.leavesShort 61 (.int i) = true := by
  rw [PyData.leavesShort]
  exact decide_eq_true (by rw [PyData.shown_int]; exact int_short h0 h)
theorem log_of60 {i : Int} (h0 : 0 ≤ i) (h : i < 10 ^ 60) : i.natAbs.log2 < 1920 := by
  have h2 : (10 : Int) ^ 60 ≤ 10 ^ 70 := by decide
  exact log_of h0 (by omega)
theorem row_facts61 {r : Trip} (h : Short r) : PyData.leavesShort 61 (rowE r) = true := by
  unfold rowE
  rw [PyData.leavesShort, PyData.leavesShortAll, PyData.leavesShortAll, PyData.leavesShortAll, leavesI h.g.s0 h.s, leavesI h.g.e0 h.e, leavesS (small_name h.g), PyData.leavesShortAll]
  rfl
theorem rows_facts61 : ∀ {rs : List Trip}, (∀ r ∈ rs, Short r) → PyData.leavesShortAll 61 (rs.map rowE) = true
  | [], _ => rfl
  | r :: rs, h => by
    rw [List.map_cons, PyData.leavesShortAll, row_facts61 (h r List.mem_cons_self), rows_facts61 fun q hq => h q (List.mem_cons_of_mem _ hq)]
    rfl
theorem names_facts : ∀ {rs : List Trip}, (∀ r ∈ rs, Short r) → PyData.leavesShortAll 61 (rs.map fun r => .str r.1) = true ∧ PyData.showableAll (rs.map fun r => .str r.1) = true ∧ PyData.hasDictAll (rs.map fun r => .str r.1) = false ∧ PyData.bulkAll (rs.map fun r => .str r.1) ≤ 9 * rs.length ∧ PyData.depthAll (rs.map fun r => .str r.1) = 0
  | [], _ => ⟨rfl, rfl, rfl, by simp [PyData.bulkAll], by simp [PyData.depthAll]⟩
  | r :: rs, h => by
    obtain ⟨b1, b2, b3, b4, b5⟩ := names_facts fun q hq => h q (List.mem_cons_of_mem _ hq)
    have l : r.1.cps.size ≤ 8 := (h r List.mem_cons_self).l
    rw [List.map_cons, PyData.leavesShortAll, PyData.showableAll, PyData.hasDictAll, PyData.bulkAll, PyData.depthAll, leavesS (small_name (h r List.mem_cons_self).g), b1, b2, b3, b5, List.length_cons]
    refine ⟨rfl, ?_, ?_, ?_, ?_⟩
    · simp [PyData.showable]
    · simp [PyData.hasDict]
    · rw [PyData.bulk]; omega
    · simp [PyData.depth]
theorem names_toDs : ∀ rs : List Trip, toDs (rs.map fun r => .str r.1) = some (rs.map fun r => .str r.1)
  | [] => by simp only [List.map_nil, toDs]
  | r :: rs => by rw [List.map_cons, List.map_cons, toDs, toD, names_toDs rs]
theorem loadN_le (rs : List Trip) (st : Int) : 0 ≤ loadN rs st ∧ loadN rs st ≤ rs.length := by
  have := List.length_filter_le (passes st) rs
  unfold loadN
  omega
theorem max_le {m : Int} : ∀ {ns : List Int} {n : Int}, (0 ≤ n ∧ n ≤ m) → (∀ x ∈ ns, 0 ≤ x ∧ x ≤ m) → 0 ≤ PySem.W.maxOf n ns ∧ PySem.W.maxOf n ns ≤ m
  | [], n, h, _ => h
  | y :: ns, n, h, g => by
    have hy := g y List.mem_cons_self
    show 0 ≤ PySem.W.maxOf (if PySem.W.DatumOrd.lt n y = true then y else n) ns ∧ _
    have := max_le (ns := ns) (n := if PySem.W.DatumOrd.lt n y = true then y else n) (m := m) (by split <;> assumption) fun x hx => g x (List.mem_cons_of_mem _ hx)
    exact this
theorem peak_le (rs : List Trip) : 0 ≤ peakI rs ∧ peakI rs ≤ rs.length := by
  unfold peakI
  cases rs with
  | nil => exact ⟨Int.le_refl 0, Int.le_refl 0⟩
  | cons r rs =>
    refine max_le (loadN_le _ _) fun x hx => ?_
    obtain ⟨q, _, rfl⟩ := List.mem_map.mp hx
    exact loadN_le _ _
theorem q_reprShows {n : Int} {rs : List Trip} {P : PV → Prop} (h0 : 0 ≤ n) (h1 : n ≤ 20) (h : ∀ r ∈ rs, Short r) (hs : ∀ r ∈ rs, ShowR r) (hl : rs.length ≤ 24) (hp : P (.str (showsD n rs).shown)) : rRepr [.lst (showsV n rs ++ showsW rs)] P := by
  have hq : ∀ r ∈ queueT rs, Short r := fun r hr => h r ((queue_perm rs).mem_iff.mp hr)
  have hqs : ∀ r ∈ queueT rs, ShowR r := fun r hr => hs r ((queue_perm rs).mem_iff.mp hr)
  have ql := queue_len rs
  obtain ⟨a1, a2, a3, a4⟩ := rows_facts hs
  obtain ⟨b1, b2, b3, b4⟩ := rows_facts hqs
  obtain ⟨c1, c2, c3, c4, c5⟩ := names_facts hq
  have a5 := rows_facts61 h
  have b5 := rows_facts61 hq
  have d1 := depth_rows rs
  have d2 := depth_rows (queueT rs)
  have pk := peak_le rs
  have l0 := loadN_le rs 0
  have l7 := loadN_le rs 7
  have h24 : (24 : Int) < 10 ^ 60 := by decide
  have tl := textS_len h0 h1 h hl
  have rl := reprS_len h0 h1 h hl
  have tl' : (textS n rs).cps.size ≤ 3325 := tl
  have rl' : (reprS n rs).cps.size ≤ 3333 := rl
  have lv : PyData.leavesShort 61 (showsD n rs) = true := by
    unfold showsD
    simp only [List.cons_append, List.nil_append, PyData.leavesShort, PyData.leavesShortAll]
    have i1 := leavesI (i := n) h0 (by omega)
    have i2 := leavesI pk.1 (by omega)
    have i3 := leavesI (i := (rs.length : Int)) (by omega) (by omega)
    have i4 := leavesI l0.1 (by omega)
    have i5 := leavesI l7.1 (by omega)
    have s1 := leavesS (B := 61) (small_text (n := n) h)
    have s2 := leavesS (B := 61) (small_repr (n := n) h)
    simp only [PyData.leavesShort] at i1 i2 i3 i4 i5 s1 s2
    rw [i1, i2, i3, i4, i5, s1, s2, a5, b5, c1]
    rfl
  refine ⟨showsD n rs, ?_, ?_, ?_, ?_, ?_, hp⟩
  · unfold showsV showsW showsD
    simp only [List.cons_append, List.nil_append, toD, toDs, toD_rows, toDs_rowsE, names_toDs]
    rfl
  · unfold showsD
    simp only [List.cons_append, List.nil_append, PyData.showable, PyData.showableAll, a2, b2, c2, Bool.true_and, Bool.and_true, Bool.and_eq_true, decide_eq_true_eq]
    exact ⟨log_of60 h0 (by omega), log_of60 pk.1 (by omega), log_of60 (i := (rs.length : Int)) (by omega) (by omega), log_of60 l0.1 (by omega), log_of60 l7.1 (by omega)⟩
  · unfold showsD
    simp only [List.cons_append, List.nil_append, PyData.hasDict, PyData.hasDictAll, a3, b3, c3]
    rfl
  · unfold showsD
    simp only [List.cons_append, List.nil_append, PyData.depth, PyData.depthAll, c5]
    omega
  · have e1 := PyData.shown_le_bulk 61 (by decide) _ lv
    have e2 : (showsD n rs).bulk ≤ 8000 := by
      unfold showsD
      simp only [List.cons_append, List.nil_append, PyData.bulk, PyData.bulkAll]
      omega
    have e3 : 63 * (showsD n rs).bulk ≤ 63 * 8000 := Nat.mul_le_mul_left _ e2
    have e4 : 63 * 8000 + 61 ≤ sizeLine := by decide
    omega
end Z
set_option Elab.async false
set_option linter.all false
set_option maxRecDepth 100000
namespace Z
open PySem PySem.Spec L2
open PyProof.Rows hiding St
/-! ### promises of a line's views -/
def sp_Line_capacity : PrP := fun K C args P => ∃ n rs, args = [lineP C n rs] ∧ P (.int n)
def sp_Line_len : PrP := fun K C args P => ∃ n rs, args = [lineP C n rs] ∧ P (.int (rs.length : Int))
def sp_Line_str : PrP := fun K C args P => ∃ n rs, args = [lineP C n rs] ∧ 1 ≤ n ∧ n ≤ 20 ∧ Rw rs ∧ Near rs ∧ P (.str (textS n rs))
def sp_Line_repr : PrP := fun K C args P => ∃ n rs, args = [lineP C n rs] ∧ 1 ≤ n ∧ n ≤ 20 ∧ Rw rs ∧ Near rs ∧ P (.str (reprS n rs))
def sp_Line_eq : PrP := fun K C args P => ∃ n rs y, args = [lineP C n rs, y] ∧ ClsT K C ∧ (∀ r ∈ rs, GoodR r) ∧ (((tyN y).isSome = true ∧ P (.bl false)) ∨ ∃ m us, y = lineP C m us ∧ (∀ r ∈ us, GoodR r) ∧ P (.bl (decide (n = m ∧ rs = us))))
def sp_load_of : PrP := fun K C args P => ∃ rs st, args = [rowsP rs, .int st] ∧ rs.length ≤ 24 ∧ P (.int (loadN rs st))
def sp_Line_load : PrP := fun K C args P => ∃ n rs st, args = [lineP C n rs, .int st] ∧ 0 ≤ st ∧ rs.length ≤ 24 ∧ P (.int (loadN rs st))
def sp_Line_order : PrP := fun K C args P => ∃ n rs, args = [lineP C n rs] ∧ rs.length ≤ 24 ∧ P (.tup ((queueT rs).map fun r => .str r.1))
def sp_Line_peak : PrP := fun K C args P => ∃ n rs, args = [lineP C n rs] ∧ rs.length ≤ 24 ∧ P (.int (peakI rs))
/-- the trip with the name, or None -/
def namedP (rs : List Trip) : PV → PV
  | .str w => match rs.find? (fun r => decide (r.1 = w)) with
    | some r => rowP r
    | none => .non
  | _ => .non
def sp_trip_named : PrP := fun K C args P => ∃ rs x, args = [rowsP rs, x] ∧ Kn K x ∧ P (namedP rs x)
def ts_Line_capacity (K : PySem.W.Frag) (CLine : Addr) : TSp := tRetP (tFldP CLine ("seat_count" : Str) (tVarP 0))
def ts_Line_len (K : PySem.W.Frag) (CLine : Addr) : TSp := tRetP (tCBP rLen (tConsP (tFldP CLine ("rows" : Str) (tVarP 0)) (tNilP)))
def ts_Line_str (K : PySem.W.Frag) (CLine : Addr) : TSp := tSeqP (tSetP 1 (tValP (tLcP (iTupP (tFldP CLine ("rows" : Str) (tVarP 0))) (gTupP 3 (gConsP (gNameP 2) (gConsP (gNameP 3) (gConsP (gNameP 4) (gNilP))))) (tYesP) (tJoinedP [tFmtP (tVarP 2), tConP (.str (":" : Str)), tFmtP (tVarP 3), tConP (.str ("-" : Str)), tFmtP (tVarP 4)]) [2, 3, 4]))) (tRetP (tJoinP (tConP (.str (" " : Str))) (tLstP (tConsP (tCBP rStr (tConsP (tFldP CLine ("seat_count" : Str) (tVarP 0)) (tNilP))) (tStarP (tVarP 1) (tNilP))))))
def ts_Line_repr (K : PySem.W.Frag) (CLine : Addr) : TSp := tRetP (tJoinedP [tConP (.str ("Line('" : Str)), tFmtP (tStrOP CLine (sp_Line_str K CLine) (tConsP (tVarP 0) (tNilP))), tConP (.str ("')" : Str))])
def ts_Line_eq (K : PySem.W.Frag) (CLine : Addr) : TSp := tRetP (tAndVP (tCBP (rIsI K) (tConsP (tVarP 1) (tConsP (tConP (.raw (.ref CLine))) (tNilP)))) (tAndVP (tOpP (rEqP false) (tFldP CLine ("seat_count" : Str) (tVarP 0)) (tFldP CLine ("seat_count" : Str) (tVarP 1))) (tOpP (rEqP false) (tFldP CLine ("rows" : Str) (tVarP 0)) (tFldP CLine ("rows" : Str) (tVarP 1)))))
def ts_load_of (K : PySem.W.Frag) (CLine : Addr) : TSp := tRetP (tCBP rLen (tConsP (tValP (tLcP (iTupP (tVarP 0)) (gTupP 3 (gConsP (gNameP 2) (gConsP (gNameP 3) (gConsP (gNameP 4) (gNilP))))) (tBlP (tChainP rLe rLt (tVarP 3) (tVarP 1) (tVarP 4))) (tVarP 2) [2, 3, 4])) (tNilP)))
def ts_Line_load (K : PySem.W.Frag) (CLine : Addr) : TSp := tSeqP (tIfSP (tNotP (tBlP (tCallP (sp_is_station K CLine) [] (tConsP (tVarP 1) (tNilP))))) (tNevP) (tNextP)) (tRetP (tCallP (sp_load_of K CLine) [] (tConsP (tFldP CLine ("rows" : Str) (tVarP 0)) (tConsP (tVarP 1) (tNilP)))))
def ts_Line_order (K : PySem.W.Frag) (CLine : Addr) : TSp := tRetP (tCBP rTuple (tConsP (tValP (tLcP (iTupP (tFldP CLine ("queue" : Str) (tVarP 0))) (gNameP 1) (tYesP) (tOpP rIxP (tVarP 1) (tConP (.int 0))) [1])) (tNilP)))
def ts_Line_peak (K : PySem.W.Frag) (CLine : Addr) : TSp := tRetP (tMaxDP (tConsP (tValP (tLcP (iTupP (tFldP CLine ("rows" : Str) (tVarP 0))) (gNameP 1) (tYesP) (tCallP (sp_load_of K CLine) [] (tConsP (tFldP CLine ("rows" : Str) (tVarP 0)) (tConsP (tOpP rIxP (tVarP 1) (tConP (.int 1))) (tNilP)))) [1])) (tNilP)) (tConsP (tConP (.int 0)) (tNilP)))
def ts_trip_named (K : PySem.W.Frag) (CLine : Addr) : TSp := tSeqP (tIfSP (tNotP (tBlP (tCBP (rIsI K) (tConsP (tVarP 1) (tConsP (tConP (.raw (.ty "str"))) (tNilP)))))) (tRetP (tConP .non)) (tNextP)) (tSeqP (tForP (iTupP (tVarP 0)) (gNameP 2) (tIfSP (tBlP (tOpP (rEqI false) (tOpP rIxP (tVarP 2) (tConP (.int 0))) (tVarP 1))) (tRetP (tVarP 2)) (tNextP))) (tRetP (tConP .non)))
section
variable {K : PySem.W.Frag} {C : Addr} {args : List PV} {P : PV → Prop} {PR : PV → Ow → Prop} {o : Ow}
theorem len_Line_capacity (h : sp_Line_capacity K C args P) : args.length = 1 := by
  obtain ⟨_, _, rfl, _⟩ := h; rfl
theorem len_Line_len (h : sp_Line_len K C args P) : args.length = 1 := by
  obtain ⟨_, _, rfl, _⟩ := h; rfl
theorem len_Line_str (h : sp_Line_str K C args P) : args.length = 1 := by
  obtain ⟨_, _, rfl, _⟩ := h; rfl
theorem len_Line_repr (h : sp_Line_repr K C args P) : args.length = 1 := by
  obtain ⟨_, _, rfl, _⟩ := h; rfl
theorem len_Line_eq (h : sp_Line_eq K C args P) : args.length = 2 := by
  obtain ⟨_, _, _, rfl, _⟩ := h; rfl
theorem len_load_of (h : sp_load_of K C args P) : args.length = 2 := by
  obtain ⟨_, _, rfl, _⟩ := h; rfl
theorem len_Line_load (h : sp_Line_load K C args P) : args.length = 2 := by
  obtain ⟨_, _, _, rfl, _⟩ := h; rfl
theorem len_Line_order (h : sp_Line_order K C args P) : args.length = 1 := by
  obtain ⟨_, _, rfl, _⟩ := h; rfl
theorem len_Line_peak (h : sp_Line_peak K C args P) : args.length = 1 := by
  obtain ⟨_, _, rfl, _⟩ := h; rfl
theorem len_trip_named (h : sp_trip_named K C args P) : args.length = 2 := by
  obtain ⟨_, _, rfl, _⟩ := h; rfl
end
end Z
set_option Elab.async false
set_option linter.all false
set_option maxRecDepth 100000
namespace Z
open PySem PySem.Spec L2
open PyProof.Rows hiding St
section
variable {K : PySem.W.Frag} {C : Addr} {args : List PV} {P : PV → Prop} {PR : PV → Ow → Prop} {o : Ow}
theorem w_chain {r r' : R2p} {ta tb tc : TEp} {η : EP'} {Q : PV → EP' → Prop} (h : ta η fun x η1 => tb η1 fun y η2 => r x y fun z => ∃ k, z = .bl k ∧ if k = true then tc η2 fun w η3 => r' y w fun z' => Q z' η3 else Q (.bl false) η2) : tChainP r r' ta tb tc η Q := h
theorem w_maxD {t tk : TAp} {η : EP'} {Q : PV → EP' → Prop} (h : t η fun xs η1 => tk η1 fun zs η2 => ∃ ys ns d, xs = [.lst ys] ∧ zs = [.int d] ∧ intsOf ys = some ns ∧ Q (.int (maxI d ns)) η2) : tMaxDP t tk η Q := h
theorem w_listW {m fl : Str} {ta : TEp} {η : EP'} {Q : PV → EP' → Prop} (h : ta η fun x η1 => ∃ fs qs, x = .ins C fs ∧ fs.lookup m = none ∧ fs.lookup fl = some (.tup qs) ∧ qs.length < 1000 ∧ Q (.lst qs) η1) : tListWP C m fl ta η Q := h
theorem w_meth {m : Str} {sp : SpP} {dps : List PV} {ta : TEp} {t : TAp} {η : EP'} {Q : PV → EP' → Prop} (h : ta η fun x η1 => (∃ fs, x = .ins C fs ∧ fs.lookup m = none) ∧ t η1 fun args η2 => sp (x :: (args ++ dps)) fun z => Q z η2) : tMethP C m sp dps ta t η Q := h
theorem w_methV {m : Str} {sp : SpP} {ta : TEp} {t : TAp} {η : EP'} {Q : PV → EP' → Prop} (h : ta η fun x η1 => (∃ fs, x = .ins C fs ∧ fs.lookup m = none) ∧ t η1 fun args η2 => args.length ≤ 5 ∧ sp [x, .tup args] fun z => Q z η2) : tMethVP C m sp ta t η Q := h
theorem take_map {α β : Type} {l : List α} {f : α → β} {i : Nat} {a : α} (h : l[i]? = some a) : (l.take (i + 1)).map f = (l.take i).map f ++ [f a] := by
  rw [List.take_succ, h, List.map_append]
  rfl
theorem take_filter {α : Type} {l : List α} {p : α → Bool} {i : Nat} {a : α} (h : l[i]? = some a) : (l.take (i + 1)).filter p = (l.take i).filter p ++ [a].filter p := by
  rw [List.take_succ, h, List.filter_append]
  rfl
theorem take_filterT {α : Type} {l : List α} {p : α → Bool} {i : Nat} {a : α} (h : l[i]? = some a) (hp : p a = true) : (l.take (i + 1)).filter p = (l.take i).filter p ++ [a] := by
  rw [take_filter h, List.filter_cons_of_pos hp]
  rfl
theorem take_filterF {α : Type} {l : List α} {p : α → Bool} {i : Nat} {a : α} (h : l[i]? = some a) (hp : p a = false) : (l.take (i + 1)).filter p = (l.take i).filter p := by
  rw [take_filter h, List.filter_cons_of_neg (by rw [hp]; decide)]
  exact List.append_nil _
theorem filt_len {α : Type} {l : List α} {p : α → Bool} {i : Nat} (h : l.length ≤ 24) : ((l.take i).filter p).length < sizeLine := by
  have h1 := List.length_filter_le p (l.take i)
  rw [List.length_take] at h1
  have : 1000 < sizeLine := by decide
  omega
theorem rd_Line_capacity (h : sp_Line_capacity K C args P) : ts_Line_capacity K C { nx := fun _ => P .non, rt := fun x _ => P x } (startP 1 args) := by
  obtain ⟨n, rs, rfl, hp⟩ := h
  exact ⟨rfl, _, rfl, hp⟩
theorem rd_Line_len (h : sp_Line_len K C args P) : ts_Line_len K C { nx := fun _ => P .non, rt := fun x _ => P x } (startP 1 args) := by
  obtain ⟨n, rs, rfl, hp⟩ := h
  refine w_ret (w_cb (w_cons (w_fld (w_var rfl ⟨rfl, _, rfl, w_nil (q_lenT ?_)⟩))))
  rw [List.length_map]
  exact hp
theorem rd_Line_eq (h : sp_Line_eq K C args P) : ts_Line_eq K C { nx := fun _ => P .non, rt := fun x _ => P x } (startP 2 args) := by
  obtain ⟨n, rs, y, rfl, hC, hg, hp⟩ := h
  refine w_ret (w_andV (w_cb (w_cons (w_var (x := y) rfl (w_cons (w_con (w_nil ?_)))))))
  rcases hp with ⟨ht, hp⟩ | ⟨m, us, rfl, hu, hp⟩
  · exact q_isC hC ht hp
  · refine ⟨rfl, hC, ?_⟩
    refine w_andV (w_op (w_fld (w_var rfl ⟨rfl, _, rfl, w_fld (w_var rfl ⟨rfl, _, rfl, q_eq ?_⟩)⟩)))
    by_cases e : n = m
    · rw [decide_eq_true e]
      refine w_op (w_fld (w_var rfl ⟨rfl, _, rfl, w_fld (w_var rfl ⟨rfl, _, rfl, ?_⟩)⟩))
      refine q_eqRows hg hu ?_
      rw [show decide (rs = us) = decide (n = m ∧ rs = us) by rw [Bool.eq_iff_iff]; simp [e]]
      exact hp
    · rw [decide_eq_false e]
      rw [show decide (n = m ∧ rs = us) = false from decide_eq_false fun z => e z.1] at hp
      exact hp
theorem rd_load_of (h : sp_load_of K C args P) : ts_load_of K C { nx := fun _ => P .non, rt := fun x _ => P x } (startP 5 args) := by
  obtain ⟨rs, st, rfl, hl, hp⟩ := h
  have e : startP 5 [rowsP rs, .int st] = [.va (rowsP rs), .va (.int st), .no, .no, .no] := rfl
  rw [e]
  refine w_ret (w_cb (w_cons (w_val (w_lc (w_itup (w_var (x := rowsP rs) rfl ?_))))))
  refine ⟨fun i acc η => acc = ((rs.take i).filter (passes st)).map (fun r => .str r.1) ∧ η = [.va (rowsP rs), .va (.int st), .no, .no, .no], ⟨rfl, rfl⟩, ?_, ?_⟩
  · rintro i x acc η hi ⟨rfl, rfl⟩
    rw [List.getElem?_map] at hi
    obtain ⟨r, hr, rfl⟩ := Option.map_eq_some_iff.mp hi
    refine ⟨rfl, w_g3 (w_bl (w_chain (w_var (x := .int r.2.1) rfl (w_var (x := .int st) rfl (q_le ⟨_, rfl, ?_⟩)))))⟩
    refine q_ite (fun a1 => w_var (x := .int r.2.2) rfl (q_lt (q_ite (fun a2 => ?_) fun a2 => ?_))) fun a1 => q_iteF ?_
    · have pp : passes st r = true := by unfold passes; rw [decide_eq_true a1, decide_eq_true a2]; rfl
      refine w_var (x := .str r.1) rfl ⟨by rw [List.length_map]; exact filt_len hl, ?_, rfl⟩
      rw [take_filterT hr pp, List.map_append]
      rfl
    · have pp : passes st r = false := by unfold passes; rw [decide_eq_true a1, decide_eq_false a2]; rfl
      exact ⟨by rw [take_filterF hr pp], rfl⟩
    · have pp : passes st r = false := by unfold passes; rw [decide_eq_false a1]; rfl
      exact ⟨by rw [take_filterF hr pp], rfl⟩
  · rintro acc η ⟨rfl, rfl⟩
    rw [List.length_map, List.take_length]
    refine w_nil (q_len ?_)
    rw [List.length_map]
    exact hp
theorem rd_Line_load (h : sp_Line_load K C args P) : ts_Line_load K C { nx := fun _ => P .non, rt := fun x _ => P x } (startP 2 args) := by
  obtain ⟨n, rs, st, rfl, h0, hl, hp⟩ := h
  have e : startP 2 [lineP C n rs, .int st] = [.va (lineP C n rs), .va (.int st)] := rfl
  rw [e]
  refine w_seq (w_if (w_not (w_bl (w_call (w_cons (w_var rfl (w_nil ⟨.int st, rfl, .inl rfl, ?_⟩)))))))
  rw [show isStn (.int st) = true from decide_eq_true h0]
  refine q_iteF (w_next ?_)
  dsimp only
  exact w_ret (w_call (w_cons (w_fld (w_var rfl ⟨rfl, _, rfl, w_cons (w_var rfl (w_nil ⟨rs, st, rfl, hl, hp⟩))⟩))))
theorem rd_Line_order (h : sp_Line_order K C args P) : ts_Line_order K C { nx := fun _ => P .non, rt := fun x _ => P x } (startP 2 args) := by
  obtain ⟨n, rs, rfl, hl, hp⟩ := h
  have e : startP 2 [lineP C n rs] = [.va (lineP C n rs), .no] := rfl
  rw [e]
  have ql := queue_len rs
  have sz : 1000 < sizeLine := by decide
  refine w_ret (w_cb (w_cons (w_val (w_lc (w_itup (w_fld (w_var rfl ⟨rfl, .tup ((queueT rs).map rowP), by rw [← queue_eq]; rfl, ?_⟩)))))))
  refine ⟨fun i acc η => acc = ((queueT rs).take i).map (fun r => .str r.1) ∧ η = [.va (lineP C n rs), .no], ⟨rfl, rfl⟩, ?_, ?_⟩
  · rintro i x acc η hi ⟨rfl, rfl⟩
    rw [List.getElem?_map] at hi
    obtain ⟨r, hr, rfl⟩ := Option.map_eq_some_iff.mp hi
    refine w_gname (w_yes (q_iteT ?_))
    refine w_op (w_var (x := rowP r) rfl (w_con (q_ixT rfl ⟨?_, ?_, rfl⟩)))
    · rw [List.length_map, List.length_take]
      omega
    · rw [take_map hr]
  · rintro acc η ⟨rfl, rfl⟩
    rw [List.length_map, List.take_length]
    exact w_nil (q_tupl hp)
theorem rd_Line_peak (h : sp_Line_peak K C args P) : ts_Line_peak K C { nx := fun _ => P .non, rt := fun x _ => P x } (startP 2 args) := by
  obtain ⟨n, rs, rfl, hl, hp⟩ := h
  have e : startP 2 [lineP C n rs] = [.va (lineP C n rs), .no] := rfl
  rw [e]
  have sz : 1000 < sizeLine := by decide
  refine w_ret (w_maxD (w_cons (w_val (w_lc (w_itup (w_fld (w_var rfl ⟨rfl, _, rfl, ?_⟩)))))))
  refine ⟨fun i acc η => acc = ((rs.take i).map fun r => loadN rs r.2.1).map .int ∧ η = [.va (lineP C n rs), .no], ⟨rfl, rfl⟩, ?_, ?_⟩
  · rintro i x acc η hi ⟨rfl, rfl⟩
    rw [List.getElem?_map] at hi
    obtain ⟨r, hr, rfl⟩ := Option.map_eq_some_iff.mp hi
    refine w_gname (w_yes (q_iteT ?_))
    refine w_call (w_cons (w_fld (w_var (x := lineP C n rs) rfl ⟨rfl, _, rfl, w_cons (w_op (w_var (x := rowP r) rfl (w_con (q_ixT rfl (w_nil ⟨rs, r.2.1, rfl, hl, ?_, ?_, rfl⟩)))))⟩)))
    · rw [List.length_map, List.length_map, List.length_take]
      omega
    · rw [take_map hr, List.map_append]
      rfl
  · rintro acc η ⟨rfl, rfl⟩
    rw [List.length_map, List.take_length]
    exact w_nil (w_cons (w_con (w_nil ⟨_, _, 0, rfl, rfl, intsOf_map _, hp⟩)))
theorem rd_Line_str (h : sp_Line_str K C args P) : ts_Line_str K C { nx := fun _ => P .non, rt := fun x _ => P x } (startP 5 args) := by
  obtain ⟨n, rs, rfl, h1, h2, hw, hn, hp⟩ := h
  have e : startP 5 [lineP C n rs] = [.va (lineP C n rs), .no, .no, .no, .no] := rfl
  rw [e]
  have hs := rw_short hw hn
  have hl := hw.len
  have sz : 16777216 ≤ sizeLine := by decide
  refine w_seq (w_set (w_val (w_lc (w_itup (w_fld (w_var rfl ⟨rfl, _, rfl, ?_⟩))))))
  refine ⟨fun i acc η => acc = ((rs.take i).map rowS).map .str ∧ η = [.va (lineP C n rs), .no, .no, .no, .no], ⟨rfl, rfl⟩, ?_, ?_⟩
  · rintro i x acc η hi ⟨rfl, rfl⟩
    rw [List.getElem?_map] at hi
    obtain ⟨r, hr, rfl⟩ := Option.map_eq_some_iff.mp hi
    have hsr := hs r (List.mem_of_getElem? hr)
    have b1 := int_short hsr.g.s0 hsr.s
    have b2 := int_short hsr.g.e0 hsr.e
    have l := hsr.l
    have c1 : ((":" : String) : Str).length = 1 := rfl
    have c2 : (("-" : String) : Str).length = 1 := rfl
    have c0 : (Str.empty).length = 0 := rfl
    refine ⟨rfl, w_g3 (w_yes (q_iteT ?_))⟩
    refine w_js (w_js1 (w_fmt (w_var (x := .str r.1) rfl ⟨by omega, _, rfl, by rw [len_app]; omega, ?_⟩)))
    refine w_js1 (w_con ⟨_, rfl, by rw [len_app, len_app]; omega, ?_⟩)
    refine w_js1 (w_fmt (w_var (x := .int r.2.1) rfl ⟨log_of60 hsr.g.s0 hsr.s, _, rfl, by rw [len_app, len_app, len_app]; omega, ?_⟩))
    refine w_js1 (w_con ⟨_, rfl, by rw [len_app, len_app, len_app, len_app]; omega, ?_⟩)
    refine w_js1 (w_fmt (w_var (x := .int r.2.2) rfl ⟨log_of60 hsr.g.e0 hsr.e, _, rfl, by rw [len_app, len_app, len_app, len_app, len_app]; omega, ?_⟩))
    refine w_js0 ⟨by rw [List.length_map, List.length_map, List.length_take]; omega, ?_, rfl⟩
    rw [take_map hr, List.map_append]
    rfl
  · rintro acc η ⟨rfl, rfl⟩
    rw [List.length_map, List.take_length]
    simp only [List.set_cons_zero, List.set_cons_succ]
    have h20 : (20 : Int) < 10 ^ 60 := by decide
    have b0 := int_short (i := n) (by omega) (by omega)
    refine w_ret (w_join (w_con ⟨⟨_, rfl⟩, ?_⟩))
    refine w_lst (w_cons (w_cb (w_cons (w_fld (w_var rfl ⟨rfl, _, rfl, w_nil ⟨log_of60 (by omega) (by omega), ?_⟩⟩)))))
    refine w_star (w_var rfl (w_nil ⟨by rw [List.length_cons, List.length_append, List.length_map, List.length_map, List.length_nil]; omega, ?_⟩))
    refine ⟨((toString n : String) : Str) :: rs.map rowS, ?_, ?_, hp⟩
    · rw [List.append_nil, strsOf, strsOf_mapS]; rfl
    · have hsum := sum_le (ys := rs.map rowS) fun y hy => by
        obtain ⟨r, hr, rfl⟩ := List.mem_map.mp hy
        have := rowS_len (hs r hr)
        omega
      rw [List.length_map] at hsum
      rw [List.map_cons, List.sum_cons, List.length_cons, List.length_map, show ((" " : String) : Str).length = 1 from rfl]
      omega
theorem rd_Line_repr (h : sp_Line_repr K C args P) : ts_Line_repr K C { nx := fun _ => P .non, rt := fun x _ => P x } (startP 1 args) := by
  obtain ⟨n, rs, rfl, h1, h2, hw, hn, hp⟩ := h
  have e : startP 1 [lineP C n rs] = [.va (lineP C n rs)] := rfl
  rw [e]
  have hs := rw_short hw hn
  have tl := textS_len (n := n) (by omega) h2 hs hw.len
  have sz : 16777216 ≤ sizeLine := by decide
  have c1 : (("Line('" : String) : Str).length = 6 := rfl
  have c2 : (("')" : String) : Str).length = 2 := rfl
  have c0 : (Str.empty).length = 0 := rfl
  refine w_ret (w_js (w_js1 (w_con ⟨_, rfl, by rw [len_app]; omega, ?_⟩)))
  refine w_js1 (w_fmt (w_strO (w_cons (w_var rfl (w_nil ⟨_, rfl, n, rs, rfl, h1, h2, hw, hn, ⟨_, rfl⟩, ?_⟩)))))
  refine ⟨by omega, _, rfl, by rw [len_app, len_app]; omega, ?_⟩
  refine w_js1 (w_con ⟨_, rfl, by rw [len_app, len_app, len_app]; omega, ?_⟩)
  exact w_js0 hp
/-! names that are left out -/
theorem flVs_strs : ∀ ws : List Str, flVs (ws.map .str) = some (ws.map V.str)
  | [] => rfl
  | w :: ws => by rw [List.map_cons, flVs, flVs_strs ws]; rfl
theorem inV_strs (x : Str) : ∀ ws : List Str, inV (.str x) (ws.map V.str) = decide (x ∈ ws)
  | [] => rfl
  | w :: ws => by
    have := inV_strs x ws
    unfold inV at this ⊢
    rw [List.map_cons, List.any_cons, this]
    have e : eqV (.str w) (.str x) = decide (w = x) := by
      show (w == x) = _
      rw [Bool.eq_iff_iff]
      simp
    rw [e, Bool.eq_iff_iff, Bool.or_eq_true, decide_eq_true_iff, decide_eq_true_iff, decide_eq_true_iff, List.mem_cons]
    exact ⟨fun z => z.imp Eq.symm id, fun z => z.imp Eq.symm id⟩
theorem q_notInT {x : Str} {ws : List Str} {Q : PV → Prop} (h : Q (.bl (!decide (x ∈ ws)))) : rInL true (.str x) (.tup (ws.map .str)) Q := ⟨_, _, _, rfl, rfl, flVs_strs ws, by rw [if_pos rfl, inV_strs]; exact h⟩
theorem q_notInLs {x : Str} {ws : List Str} {Q : PV → Prop} (h : Q (.bl (!decide (x ∈ ws)))) : rInL true (.str x) (.lst (ws.map .str)) Q := ⟨_, _, _, rfl, rfl, flVs_strs ws, by rw [if_pos rfl, inV_strs]; exact h⟩
theorem w_iwalk {m fl : Str} {ta : TEp} {η : EP'} {Q : List PV → EP' → Prop} (h : ta η fun x η1 => ∃ fs qs, x = .ins C fs ∧ fs.lookup m = none ∧ fs.lookup fl = some (.tup qs) ∧ qs.length < 1000 ∧ Q qs η1) : iWalkP C m fl ta η Q := h
theorem w_walk {n : Int} {rs : List Trip} {s : Nat} {η : EP'} {Q : List PV → EP' → Prop} (e : η[s]? = some (.va (lineP C n rs))) (hl : rs.length ≤ 24) (h : Q ((queueT rs).map rowP) η) : iWalkP C ("walk" : Str) ("queue" : Str) (tVarP s) η Q := by
  refine w_iwalk (w_var e ⟨_, (queueT rs).map rowP, rfl, rfl, by rw [← queue_eq]; rfl, ?_, h⟩)
  rw [List.length_map, queue_len]; omega
theorem rd_trip_named (h : sp_trip_named K C args P) : ts_trip_named K C { nx := fun _ => P .non, rt := fun x _ => P x } (startP 3 args) := by
  obtain ⟨rs, x, rfl, kn, hp⟩ := h
  have e : startP 3 [rowsP rs, x] = [.va (rowsP rs), .va x, .no] := rfl
  rw [e]
  refine w_seq (w_if (w_not (w_bl (w_cb (w_cons (w_var (x := x) rfl (w_cons (w_con (w_nil (isi_str kn ?_))))))))))
  cases x with
  | str w =>
    refine q_iteF (w_next ?_)
    dsimp only
    refine w_seq (w_for (w_itup (w_var (x := rowsP rs) rfl ⟨fun i η => (∀ r ∈ rs.take i, r.1 ≠ w) ∧ ∃ s, η = [.va (rowsP rs), .va (.str w), s], ⟨fun _ z => (by cases z), _, rfl⟩, ?_, ?_⟩)))
    · rintro i x η hi ⟨hn, s, rfl⟩
      rw [List.getElem?_map] at hi
      obtain ⟨r, hr, rfl⟩ := Option.map_eq_some_iff.mp hi
      refine w_gname ?_
      simp only [List.set_cons_zero, List.set_cons_succ]
      refine w_if (w_bl (w_op (w_op (w_var (x := rowP r) rfl (w_con (q_ixT rfl (w_var (x := .str w) rfl (q_eqI ?_))))))))
      refine q_ite (fun e1 => w_ret (w_var (x := rowP r) rfl ?_)) fun ne => w_next ⟨fun q hq => ?_, _, rfl⟩
      · have f : rs.find? (fun r => decide (r.1 = w)) = some r := by
          obtain ⟨hil, er⟩ := List.getElem?_eq_some_iff.mp hr
          have sp : rs = rs.take i ++ r :: rs.drop (i + 1) := by rw [← er, List.getElem_cons_drop, List.take_append_drop]
          rw [sp, List.find?_append, List.find?_eq_none.mpr (fun q hq => by simpa using hn q hq)]
          simp [e1]
        unfold namedP at hp
        simp only [f] at hp
        exact hp
      · rw [List.take_succ, hr] at hq
        rcases List.mem_append.mp hq with z | z
        · exact hn q z
        · have z2 : q = r := by simpa using z
          rw [z2]
          exact ne
    · rintro η ⟨hn, s, rfl⟩
      rw [List.length_map, List.take_length] at hn
      have f : rs.find? (fun r => decide (r.1 = w)) = none := List.find?_eq_none.mpr fun q hq => by simpa using hn q hq
      unfold namedP at hp
      simp only [f] at hp
      dsimp only
      exact w_ret (w_con hp)
  | _ =>
    refine q_iteT ?_
    refine w_ret ?_
    exact w_con hp
end
end Z
set_option Elab.async false
set_option linter.all false
set_option maxRecDepth 100000
namespace Z
open PySem PySem.Spec L2
open PyProof.Rows hiding St
/-! ### trips by start, loads, as laws ask them -/
def sp_law_by_start : PrP := fun K C args P => ∃ rs, args = [rowsP rs] ∧ Rw rs ∧ P (.lst ((queueT rs).map rowP))
def sp_law_load : PrP := fun K C args P => ∃ rs st, args = [rowsP rs, .int st] ∧ rs.length ≤ 24 ∧ P (.int (loadN rs st))
def sp_law_peak : PrP := fun K C args P => ∃ rs, args = [rowsP rs] ∧ rs.length ≤ 24 ∧ P (.int (peakI rs))
def ts_law_by_start (K : PySem.W.Frag) (CLine : Addr) : TSp := tSeqP (tSetP 1 (tCBP rSortD (tConsP (tValP (tLcP (iTupP (tVarP 0)) (gNameP 2) (tYesP) (tTupP (tConsP (tOpP rIxP (tVarP 2) (tConP (.int 1))) (tConsP (tOpP rIxP (tVarP 2) (tConP (.int 0))) (tConsP (tVarP 2) (tNilP))))) [2])) (tNilP)))) (tRetP (tValP (tLcP (iListP (tVarP 1)) (gNameP 3) (tYesP) (tOpP rIxP (tVarP 3) (tConP (.int 2))) [3])))
def ts_law_load (K : PySem.W.Frag) (CLine : Addr) : TSp := tRetP (tCBP rLen (tConsP (tValP (tLcP (iTupP (tVarP 0)) (gNameP 2) (tBlP (tChainP rLe rLt (tOpP rIxP (tVarP 2) (tConP (.int 1))) (tVarP 1) (tOpP rIxP (tVarP 2) (tConP (.int 2))))) (tVarP 2) [2])) (tNilP)))
def ts_law_peak (K : PySem.W.Frag) (CLine : Addr) : TSp := tRetP (tCBP rMaxL (tConsP (tOpP rAdd (tValP (tLcP (iTupP (tVarP 0)) (gNameP 1) (tYesP) (tCallP (sp_law_load K CLine) [] (tConsP (tVarP 0) (tConsP (tOpP rIxP (tVarP 1) (tConP (.int 1))) (tNilP)))) [1])) (tLstP (tConsP (tConP (.int 0)) (tNilP)))) (tNilP)))
section
variable {K : PySem.W.Frag} {C : Addr} {args : List PV} {P : PV → Prop} {PR : PV → Ow → Prop} {o : Ow}
theorem len_law_by_start (h : sp_law_by_start K C args P) : args.length = 1 := by
  obtain ⟨_, rfl, _⟩ := h; rfl
theorem len_law_load (h : sp_law_load K C args P) : args.length = 2 := by
  obtain ⟨_, _, rfl, _⟩ := h; rfl
theorem len_law_peak (h : sp_law_peak K C args P) : args.length = 1 := by
  obtain ⟨_, rfl, _⟩ := h; rfl
end
end Z
set_option Elab.async false
set_option linter.all false
set_option maxRecDepth 100000
namespace Z
open PySem PySem.Spec L2
open PyProof.Rows hiding St
section
variable {K : PySem.W.Frag} {C : Addr} {args : List PV} {P : PV → Prop} {PR : PV → Ow → Prop} {o : Ow}
/-! ### rows by start, name, row -/
def triP (r : Trip) : PV := .tup [.int r.2.1, .str r.1, rowP r]
def triD (r : Trip) : PyData := .tuple [.int r.2.1, .str r.1, rowD r]
theorem toDs_tri : ∀ rs : List Trip, toDs (rs.map triP) = some (rs.map triD)
  | [] => rfl
  | r :: rs => by
    rw [List.map_cons, toDs, toDs_tri rs]
    rfl
theorem alike_tri (rs : List Trip) : PySem.W.AllAlike (rs.map triD) := fun d hd d' hd' => by
  obtain ⟨a, _, rfl⟩ := List.mem_map.mp hd
  obtain ⟨b, _, rfl⟩ := List.mem_map.mp hd'
  simp [triD, rowD, PySem.W.alike, PySem.W.alikeAll]
theorem tri_le {a b : Trip} (h : a.1 = b.1 → a = b) : PySem.W.dataLe false encD (triP a) (triP b) = qLe a b := by
  show (!PySem.W.dataLt (.tuple [.int b.2.1, .str b.1, rowD b]) (.tuple [.int a.2.1, .str a.1, rowD a])) = !PySem.W.dataLt (.tuple [.int b.2.1, .str b.1]) (.tuple [.int a.2.1, .str a.1])
  rw [PySem.W.dataLt_tuple, PySem.W.dataLt_tuple, PySem.W.dataLt_cons (x := .int b.2.1) (y := .int a.2.1) (by simp [PySem.W.alike]) [.str b.1, rowD b], PySem.W.dataLt_cons (x := .int b.2.1) (y := .int a.2.1) (by simp [PySem.W.alike]) [.str b.1],
    PySem.W.dataLt_cons (x := .str b.1) (y := .str a.1) (by simp [PySem.W.alike]) [rowD b], PySem.W.dataLt_cons (x := .str b.1) (y := .str a.1) (by simp [PySem.W.alike]) []]
  by_cases e : PyData.eqv (.str b.1) (.str a.1) = true
  · have e1 : b.1 = a.1 := by simpa [PyData.eqv] using e
    obtain rfl := h e1.symm
    rw [PyProof.Rows.lex_irrefl, PyProof.Rows.lex_irrefl]
  · rw [if_neg e, if_neg e]
theorem tri_sort {rs : List Trip} (h : (rs.map (·.1)).Nodup) : (rs.map triP).mergeSort (PySem.W.dataLe false encD) = (queueT rs).map triP := by
  unfold queueT
  refine (List.map_mergeSort (r := qLe) (s := PySem.W.dataLe false encD) (f := triP) (l := rs) fun a ha b hb => ?_).symm
  refine (tri_le fun e => ?_).symm
  obtain ⟨i, hi, rfl⟩ := List.mem_iff_getElem.mp ha
  obtain ⟨j, hj, rfl⟩ := List.mem_iff_getElem.mp hb
  have := (List.getElem_inj (i := i) (j := j) (h₀ := by rw [List.length_map]; exact hi) (h₁ := by rw [List.length_map]; exact hj) h).mp (by rw [List.getElem_map, List.getElem_map]; exact e)
  subst this
  rfl
theorem asc_nodup {rs : List Trip} (h : Rw rs) : (rs.map (·.1)).Nodup := by
  unfold List.Nodup
  refine List.pairwise_map.mpr (h.asc.imp fun {a b} hab e => ?_)
  rw [e] at hab
  exact List.lt_irrefl _ hab
theorem w_notV {te : TEp} {η : EP'} {Q : PV → EP' → Prop} (h : te η fun x η1 => match x with | .bl b => Q (.bl (!b)) η1 | _ => False) : tNotVP te η Q := h
theorem rd_law_by_start (h : sp_law_by_start K C args P) : ts_law_by_start K C { nx := fun _ => P .non, rt := fun x _ => P x } (startP 4 args) := by
  obtain ⟨rs, rfl, hw, hp⟩ := h
  have e : startP 4 [rowsP rs] = [.va (rowsP rs), .no, .no, .no] := rfl
  rw [e]
  have hl := hw.len
  have ql := queue_len rs
  have sz : 1000 < sizeLine := by decide
  refine w_seq (w_set (w_cb (w_cons (w_val (w_lc (w_itup (w_var (x := rowsP rs) rfl ?_)))))))
  refine ⟨fun i acc η => acc = (rs.take i).map triP ∧ η = [.va (rowsP rs), .no, .no, .no], ⟨rfl, rfl⟩, ?_, ?_⟩
  · rintro i x acc η hi ⟨rfl, rfl⟩
    rw [List.getElem?_map] at hi
    obtain ⟨r, hr, rfl⟩ := Option.map_eq_some_iff.mp hi
    refine w_gname (w_yes (q_iteT ?_))
    refine w_tup (w_cons (w_op (w_var (x := rowP r) rfl (w_con (q_ixT (x := .int r.2.1) rfl (w_cons (w_op (w_var (x := rowP r) rfl (w_con (q_ixT (x := .str r.1) rfl ?_))))))))))
    refine w_cons (w_var (x := rowP r) rfl (w_nil ⟨sz3, by rw [List.length_map, List.length_take]; omega, ?_, rfl⟩))
    rw [take_map hr]
    rfl
  · rintro acc η ⟨rfl, rfl⟩
    rw [List.length_map, List.take_length]
    refine w_nil ⟨_, toDs_tri rs, alike_tri rs, .inl fun d hd => ?_, fun x hx => ?_, by rw [List.length_map]; omega, ?_⟩
    · obtain ⟨a, _, rfl⟩ := List.mem_map.mp hd
      exact ⟨_, _, rfl⟩
    · obtain ⟨a, _, rfl⟩ := List.mem_map.mp hx
      show (triD a).depth ≤ 50
      simp [triD, rowD, PyData.depth, PyData.depthAll]
    · rw [tri_sort (asc_nodup hw)]
      simp only [List.set_cons_zero, List.set_cons_succ]
      refine w_ret (w_val (w_lc (w_varL (xs := (queueT rs).map triP) rfl ?_)))
      refine ⟨fun i acc η => acc = ((queueT rs).take i).map rowP ∧ η = [.va (rowsP rs), .va (.lst ((queueT rs).map triP)), .no, .no], ⟨rfl, rfl⟩, ?_, ?_⟩
      · rintro i x acc η hi ⟨rfl, rfl⟩
        rw [List.getElem?_map] at hi
        obtain ⟨r, hr, rfl⟩ := Option.map_eq_some_iff.mp hi
        refine w_gname (w_yes (q_iteT ?_))
        refine w_op (w_var (x := triP r) rfl (w_con (q_ixT (x := rowP r) rfl ⟨by rw [List.length_map, List.length_take]; omega, ?_, rfl⟩)))
        rw [take_map hr]
      · rintro acc η ⟨rfl, rfl⟩
        rw [List.length_map, List.take_length]
        exact hp
theorem rd_law_load (h : sp_law_load K C args P) : ts_law_load K C { nx := fun _ => P .non, rt := fun x _ => P x } (startP 3 args) := by
  obtain ⟨rs, st, rfl, hl, hp⟩ := h
  have e : startP 3 [rowsP rs, .int st] = [.va (rowsP rs), .va (.int st), .no] := rfl
  rw [e]
  refine w_ret (w_cb (w_cons (w_val (w_lc (w_itup (w_var (x := rowsP rs) rfl ?_))))))
  refine ⟨fun i acc η => acc = ((rs.take i).filter (passes st)).map rowP ∧ η = [.va (rowsP rs), .va (.int st), .no], ⟨rfl, rfl⟩, ?_, ?_⟩
  · rintro i x acc η hi ⟨rfl, rfl⟩
    rw [List.getElem?_map] at hi
    obtain ⟨r, hr, rfl⟩ := Option.map_eq_some_iff.mp hi
    refine w_gname (w_bl (w_chain (w_op (w_var (x := rowP r) rfl (w_con (q_ixT (x := .int r.2.1) rfl (w_var (x := .int st) rfl (q_le ⟨_, rfl, ?_⟩))))))))
    refine q_ite (fun a1 => w_op (w_var (x := rowP r) rfl (w_con (q_ixT (x := .int r.2.2) rfl (q_lt (q_ite (fun a2 => ?_) fun a2 => ?_)))))) fun a1 => q_iteF ?_
    · have pp : passes st r = true := by unfold passes; rw [decide_eq_true a1, decide_eq_true a2]; rfl
      refine w_var (x := rowP r) rfl ⟨by rw [List.length_map]; exact filt_len hl, ?_, rfl⟩
      rw [take_filterT hr pp, List.map_append]
      rfl
    · have pp : passes st r = false := by unfold passes; rw [decide_eq_true a1, decide_eq_false a2]; rfl
      exact ⟨by rw [take_filterF hr pp], rfl⟩
    · have pp : passes st r = false := by unfold passes; rw [decide_eq_false a1]; rfl
      exact ⟨by rw [take_filterF hr pp], rfl⟩
  · rintro acc η ⟨rfl, rfl⟩
    rw [List.length_map, List.take_length]
    refine w_nil (q_len ?_)
    rw [List.length_map]
    exact hp
theorem maxOf_mem : ∀ (ns : List Int) (n : Int), PySem.W.maxOf n ns ∈ n :: ns ∧ ∀ x ∈ n :: ns, x ≤ PySem.W.maxOf n ns
  | [], n => ⟨List.mem_cons_self, fun x hx => by rw [List.mem_singleton.mp hx]; exact Int.le_refl _⟩
  | y :: ns, n => by
    show PySem.W.maxOf (if PySem.W.DatumOrd.lt n y = true then y else n) ns ∈ _ ∧ ∀ x ∈ _, x ≤ PySem.W.maxOf (if PySem.W.DatumOrd.lt n y = true then y else n) ns
    have e : (PySem.W.DatumOrd.lt n y = true) = (n < y) := by
      show ((decide (n < y)) = true) = _
      simp
    simp only [e]
    obtain ⟨h1, h2⟩ := maxOf_mem ns (if n < y then y else n)
    by_cases c : n < y
    · rw [if_pos c] at h1 h2 ⊢
      refine ⟨List.mem_cons_of_mem _ h1, fun x hx => ?_⟩
      rcases List.mem_cons.mp hx with rfl | hx
      · have := h2 y List.mem_cons_self; omega
      · exact h2 x hx
    · rw [if_neg c] at h1 h2 ⊢
      refine ⟨?_, fun x hx => ?_⟩
      · rcases List.mem_cons.mp h1 with e | e
        · rw [e]; exact List.mem_cons_self
        · exact List.mem_cons_of_mem _ (List.mem_cons_of_mem _ e)
      · rcases List.mem_cons.mp hx with rfl | hx
        · exact h2 x List.mem_cons_self
        · rcases List.mem_cons.mp hx with rfl | hx
          · have := h2 n List.mem_cons_self; omega
          · exact h2 x (List.mem_cons_of_mem _ hx)
theorem peak_mem (rs : List Trip) : peakI rs ∈ rs.map (fun r => loadN rs r.2.1) ++ [0] ∧ ∀ x ∈ rs.map (fun r => loadN rs r.2.1) ++ [0], x ≤ peakI rs := by
  unfold peakI
  cases e : rs.map (fun r => loadN rs r.2.1) with
  | nil => exact ⟨List.mem_cons_self, fun x hx => by rw [List.mem_singleton.mp hx]; exact Int.le_refl _⟩
  | cons n ns =>
    obtain ⟨h1, h2⟩ := maxOf_mem ns n
    refine ⟨List.mem_append_left _ h1, fun x hx => ?_⟩
    rcases List.mem_append.mp hx with hx | hx
    · exact h2 x hx
    · rw [List.mem_singleton.mp hx]
      have hn : n ∈ rs.map (fun r => loadN rs r.2.1) := by rw [e]; exact List.mem_cons_self
      obtain ⟨r, _, rfl⟩ := List.mem_map.mp hn
      have := (loadN_le rs r.2.1).1
      have := h2 _ List.mem_cons_self
      show (0 : Int) ≤ PySem.W.maxOf _ _
      omega
theorem rd_law_peak (h : sp_law_peak K C args P) : ts_law_peak K C { nx := fun _ => P .non, rt := fun x _ => P x } (startP 2 args) := by
  obtain ⟨rs, rfl, hl, hp⟩ := h
  have e : startP 2 [rowsP rs] = [.va (rowsP rs), .no] := rfl
  rw [e]
  have sz : 1000 < sizeLine := by decide
  refine w_ret (w_cb (w_cons (w_op (w_val (w_lc (w_itup (w_var (x := rowsP rs) rfl ?_)))))))
  refine ⟨fun i acc η => acc = ((rs.take i).map fun r => loadN rs r.2.1).map .int ∧ η = [.va (rowsP rs), .no], ⟨rfl, rfl⟩, ?_, ?_⟩
  · rintro i x acc η hi ⟨rfl, rfl⟩
    rw [List.getElem?_map] at hi
    obtain ⟨r, hr, rfl⟩ := Option.map_eq_some_iff.mp hi
    refine w_gname (w_yes (q_iteT ?_))
    refine w_call (w_cons (w_var (x := rowsP rs) rfl (w_cons (w_op (w_var (x := rowP r) rfl (w_con (q_ixT (x := .int r.2.1) rfl (w_nil ⟨rs, r.2.1, rfl, hl, ?_, ?_, rfl⟩))))))))
    · rw [List.length_map, List.length_map, List.length_take]
      omega
    · rw [take_map hr, List.map_append]
      rfl
  · rintro acc η ⟨rfl, rfl⟩
    rw [List.length_map, List.take_length]
    refine w_lst (w_cons (w_con (w_nil ⟨sz1, q_addLL ?_ ?_⟩)))
    · rw [List.length_map, List.length_map]; show rs.length + 1 ≤ sizeLine; omega
    · obtain ⟨h1, h2⟩ := peak_mem rs
      have e2 : (rs.map fun (r : Trip) => loadN rs r.2.1).map PV.int ++ [PV.int 0] = (rs.map (fun (r : Trip) => loadN rs r.2.1) ++ [0]).map PV.int := by rw [List.map_append]; rfl
      rw [e2]
      exact w_nil (q_maxL h1 h2 hp)
theorem w_iteNot {p : Bool} {A B : Prop} (e : p = false) (h : B) : if p = true then A else B := by rw [e, if_neg Bool.false_ne_true]; exact h
theorem ne_self {α : Type} [DecidableEq α] (x : α) : (!decide (x = x)) = false := by rw [decide_eq_true rfl]; rfl
theorem w_methK {m : Str} {sp : SpP} {n nk : Nat} {is : List Nat} {ta : TEp} {t tk : TAp} {η : EP'} {Q : PV → EP' → Prop} (h : ta η fun x η1 => (∃ fs, x = .ins C fs ∧ fs.lookup m = none) ∧ t η1 fun args η2 => tk η2 fun zs η3 => args.length = n ∧ zs.length = nk ∧ sp (x :: (args ++ pick is zs)) fun z => Q z η3) : tMethKP C m sp n nk is ta t tk η Q := h
theorem w_callK {sp : SpP} {n nk : Nat} {is : List Nat} {t tk : TAp} {η : EP'} {Q : PV → EP' → Prop} (h : t η fun args η1 => tk η1 fun zs η2 => args.length = n ∧ zs.length = nk ∧ sp (args ++ pick is zs) fun z => Q z η2) : tCallKP sp n nk is t tk η Q := h
def namesD (us : List Trip) : PyData := .tuple (us.map fun r => .str r.1)
theorem names_data {us : List Trip} (h : ∀ r ∈ us, Short r) (hl : us.length ≤ 24) : toD (.tup (us.map fun r => .str r.1)) = some (namesD us) ∧ (namesD us).showable = true ∧ (namesD us).hasDict = false ∧ (namesD us).depth ≤ 60 ∧ (namesD us).shown.length ≤ sizeLine := by
  obtain ⟨c1, c2, c3, c4, c5⟩ := names_facts h
  have e1 := PyData.shown_le_bulk 61 (by decide) (namesD us) (by unfold namesD; rw [PyData.leavesShort]; exact c1)
  have e2 : (namesD us).bulk ≤ 8000 := by unfold namesD; rw [PyData.bulk]; omega
  have e3 : 63 * (namesD us).bulk ≤ 63 * 8000 := Nat.mul_le_mul_left _ e2
  have e4 : 63 * 8000 + 61 ≤ sizeLine := by decide
  refine ⟨?_, ?_, ?_, ?_, by omega⟩
  · rw [toD, names_toDs]; rfl
  · unfold namesD; rw [PyData.showable]; exact c2
  · unfold namesD; rw [PyData.hasDict]; exact c3
  · unfold namesD; rw [PyData.depth, c5]; omega
theorem q_reprNames {us : List Trip} (h : ∀ r ∈ us, Short r) (hl : us.length ≤ 24) (hp : P (.str (namesD us).shown)) : rRepr [.tup (us.map fun r => .str r.1)] P := by
  obtain ⟨a1, a2, a3, a4, a5⟩ := names_data h hl
  exact ⟨namesD us, a1, a2, a3, a4, a5, hp⟩
theorem q_reprRowsL {us : List Trip} (h : ∀ r ∈ us, ShowR r) (hl : us.length ≤ 24) (hp : P (.str (PyData.list (us.map rowE)).shown)) : rRepr [.lst (us.map rowP)] P := by
  obtain ⟨a1, a2, a3, a4⟩ := rows_facts h
  have hd := depth_rows us
  exact ⟨_, by rw [toD, toDs_rowsE]; rfl, by rw [PyData.showable]; exact a2, by rw [PyData.hasDict]; exact a3, by rw [PyData.depth]; omega, fit_shown (n := 300) (by rw [PyData.leavesShort]; exact a1) (by rw [PyData.bulk]; omega) (by decide), hp⟩
theorem q_neRow {r u : Trip} (hr : GoodR r) (hu : GoodR u) (h : P (.bl (!decide (r = u)))) : rEqP true (rowP r) (rowP u) P := by
  have sh : ∀ {r : Trip}, GoodR r → SeqAt.shaped (rowE r) = true := fun {r} g => by
    unfold SeqAt.shaped
    rw [canLay_row g, Bool.true_and]
    exact decide_eq_true (by unfold rowE; simp [PyData.depth, PyData.depthAll])
  exact ⟨_, _, toD_row r, toD_row u, sh hr, sh hu, by rw [if_pos rfl, eqv_row]; exact h⟩
theorem q_neRowsL {rs us : List Trip} (hr : ∀ r ∈ rs, GoodR r) (hu : ∀ r ∈ us, GoodR r) (h : P (.bl (!decide (rs = us)))) : rEqP true (.lst (rs.map rowP)) (.lst (us.map rowP)) P := by
  have td : ∀ rs : List Trip, toD (.lst (rs.map rowP)) = some (.list (rs.map rowE)) := fun rs => by rw [toD, toDs_rowsE]; rfl
  have sh : ∀ {rs : List Trip}, (∀ r ∈ rs, GoodR r) → SeqAt.shaped (.list (rs.map rowE)) = true := fun {rs} g => by
    unfold SeqAt.shaped
    have := depth_rows rs
    rw [PyData.canLay0, canLay_rows g, Bool.true_and]
    refine decide_eq_true ?_
    rw [PyData.depth]
    omega
  exact ⟨_, _, td rs, td us, sh hr, sh hu, by rw [if_pos rfl, show PyData.eqv (.list (rs.map rowE)) (.list (us.map rowE)) = PyData.eqvAll (rs.map rowE) (us.map rowE) by simp only [PyData.eqv], eqv_rows]; exact h⟩
theorem q_eqN {a b : Int} (h : P (.bl (decide (a = b)))) : rEqI false (.int a) (.int b) P := h
end
end Z
set_option Elab.async false
set_option linter.all false
set_option maxRecDepth 100000
namespace Z
open PySem PySem.Spec L2
open PyProof.Rows hiding St
/-! ### plans of the program: what there is to choose -/
def overR (n : Int) (rs : List Trip) : Option Trip := (queueT rs).find? fun r => decide (n < loadN rs r.2.1)
def overP (n : Int) (rs : List Trip) : PV := match overR n rs with
  | some r => .int r.2.1
  | none => .non
def meetB (a b : Trip) : Bool := decide (a.2.1 < b.2.2) && decide (b.2.1 < a.2.2)
/-- what the trip at place i of q can choose among n seats -/
def szAt (n : Int) (q : List Trip) (i : Nat) : Int := match q[i]? with
  | some r => n - (((q.take i).filter (meetB r)).length : Int)
  | none => 0
def sizesI (n : Int) (q : List Trip) : List Int := (List.range q.length).map (szAt n q)
def prodI (l : List Int) : Int := l.foldl (· * ·) 1
def countI (n : Int) (rs : List Trip) : Int := match overR n rs with
  | some _ => 0
  | none => prodI (sizesI n (queueT rs))
def sp_check_line : PrP := fun K C args P => ∃ n rs, args = [lineP C n rs] ∧ ClsT K C ∧ P .non
def sp_meet : PrP := fun K C args P => ∃ a b, args = [rowP a, rowP b] ∧ P (.bl (meetB a b))
def sp_overfull : PrP := fun K C args P => ∃ n rs, args = [lineP C n rs] ∧ ClsT K C ∧ Rw rs ∧ P (overP n rs)
def sp_choices : PrP := fun K C args P => ∃ n rs, args = [lineP C n rs] ∧ rs.length ≤ 24 ∧ P (.lst ((sizesI n (queueT rs)).map .int))
def sp_count : PrP := fun K C args P => ∃ n rs, args = [lineP C n rs] ∧ ClsT K C ∧ 1 ≤ n ∧ n ≤ 20 ∧ Rw rs ∧ P (.int (countI n rs))
def ts_check_line (K : PySem.W.Frag) (CLine : Addr) : TSp := tIfSP (tNotP (tBlP (tCBP (rIsI K) (tConsP (tVarP 0) (tConsP (tConP (.raw (.ref CLine))) (tNilP)))))) (tNevP) (tNextP)
def ts_meet (K : PySem.W.Frag) (CLine : Addr) : TSp := tRetP (tAndVP (tOpP rLt (tOpP rIxP (tVarP 0) (tConP (.int 1))) (tOpP rIxP (tVarP 1) (tConP (.int 2)))) (tOpP rLt (tOpP rIxP (tVarP 1) (tConP (.int 1))) (tOpP rIxP (tVarP 0) (tConP (.int 2)))))
def ts_overfull (K : PySem.W.Frag) (CLine : Addr) : TSp := tSeqP (tDropP (tCallP (sp_check_line K CLine) [] (tConsP (tVarP 0) (tNilP)))) (tSeqP (tForP (iWalkP CLine ("walk" : Str) ("queue" : Str) (tVarP 0)) (gTupP 3 (gConsP (gNameP 1) (gConsP (gNameP 2) (gConsP (gNameP 3) (gNilP))))) (tIfSP (tBlP (tOpP rGt (tMethP CLine ("load" : Str) (sp_Line_load K CLine) [] (tVarP 0) (tConsP (tVarP 2) (tNilP))) (tPropP CLine (sp_Line_capacity K CLine) (tVarP 0)))) (tRetP (tVarP 2)) (tNextP))) (tRetP (tConP .non)))
def ts_choices (K : PySem.W.Frag) (CLine : Addr) : TSp := tSeqP (tSetFP 1 (tLstFP (tNilP))) (tSeqP (tSetFP 2 (tLstFP (tNilP))) (tSeqP (tForP (iWalkP CLine ("walk" : Str) ("queue" : Str) (tVarP 0)) (gNameP 3) (tSeqP (tAppP 2 (tOpP rSub (tPropP CLine (sp_Line_capacity K CLine) (tVarP 0)) (tCBP rLen (tConsP (tValP (tLcOP 1 (gNameP 4) (tBlP (tCallP (sp_meet K CLine) [] (tConsP (tVarP 3) (tConsP (tVarP 4) (tNilP))))) (tVarP 4) [4])) (tNilP))))) (tAppP 1 (tVarP 3)))) (tRetP (tVarP 2))))
def ts_count (K : PySem.W.Frag) (CLine : Addr) : TSp := tSeqP (tIfSP (tBlP (tOpP (rIsN true) (tCallP (sp_overfull K CLine) [] (tConsP (tVarP 0) (tNilP))) (tConP .non))) (tRetP (tConP (.int 0))) (tNextP)) (tSeqP (tSetP 1 (tConP (.int 1))) (tSeqP (tForP (iListP (tCallP (sp_choices K CLine) [] (tConsP (tVarP 0) (tNilP)))) (gNameP 2) (tAugP .Mult 1 (tVarP 2))) (tRetP (tVarP 1))))
section
variable {K : PySem.W.Frag} {C : Addr} {args : List PV} {P : PV → Prop} {PR : PV → Ow → Prop} {o : Ow}
theorem len_check_line (h : sp_check_line K C args P) : args.length = 1 := by
  obtain ⟨_, _, rfl, _⟩ := h; rfl
theorem len_meet (h : sp_meet K C args P) : args.length = 2 := by
  obtain ⟨_, _, rfl, _⟩ := h; rfl
theorem len_overfull (h : sp_overfull K C args P) : args.length = 1 := by
  obtain ⟨_, _, rfl, _⟩ := h; rfl
theorem len_choices (h : sp_choices K C args P) : args.length = 1 := by
  obtain ⟨_, _, rfl, _⟩ := h; rfl
theorem len_count (h : sp_count K C args P) : args.length = 1 := by
  obtain ⟨_, _, rfl, _⟩ := h; rfl
end
end Z
set_option Elab.async false
set_option linter.all false
set_option maxRecDepth 100000
namespace Z
open PySem PySem.Spec L2
open PyProof.Rows hiding St
section
variable {K : PySem.W.Frag} {C : Addr} {args : List PV} {P : PV → Prop} {PR : PV → Ow → Prop} {o : Ow}
theorem q_isnN {x : PV} {Q : PV → Prop} (h : Q (.bl (match x with | .non => false | _ => true))) (hx : (isNon x).isSome = true) : rIsN true x .non Q := by
  cases x <;> first | exact ⟨_, rfl, h⟩ | cases hx
theorem w_lstP {te : TEp} {η : EP'} {Q : List PV → EP' → Prop} (h : te η fun x η1 => match x with | .lst xs => Q xs η1 | .scr ns => Q (ns.map .int) η1 | _ => False) : iListP te η Q := h
theorem w_lcO {i : Nat} {g : TGp} {tt : TTp} {te : TEp} {vs : List Nat} {η : EP'} {Q : List PV → EP' → Prop} (h : ∃ xs, η[i]? = some (.ow (.l xs)) ∧ i ∉ vs ∧ ∃ Inv : Nat → List PV → EP' → Prop, Inv 0 [] (wipeP η vs) ∧ (∀ k acc η2, Inv k acc η2 → η2[i]? = some (.ow (.l xs))) ∧
  (∀ k x acc η2, xs[k]? = some x → Inv k acc η2 → g x (wipeP η2 vs) fun η3 => tt η3 fun b η4 => if b = true then te η4 fun y η5 => acc.length < sizeLine ∧ Inv (k + 1) (acc ++ [y]) (wipeP η5 vs) else Inv (k + 1) acc (wipeP η4 vs)) ∧
  (∀ acc η2, Inv xs.length acc η2 → Q acc η2)) : tLcOP i g tt te vs η Q := h
theorem w_aug {op : Operator} {s : Nat} {te : TEp} {D : EndsP} {η : EP'} {i : Int} (e : η[s]? = some (.va (.int i))) (h : te η fun y η1 => match y with
    | .int j => ∃ k, augI op i j = some k ∧ CMul i j ∧ D.nx (η1.set s (.va (.int k)))
    | _ => False) : tAugP op s te D η := by unfold tAugP; rw [e]; exact h
theorem w_g3' {a b c : PV} {i j k : Nat} {η : EP'} {R : EP' → Prop} (h : R (((η.set i (.va a)).set j (.va b)).set k (.va c))) : gTupP 3 (gConsP (gNameP i) (gConsP (gNameP j) (gConsP (gNameP k) (gNilP)))) (.tup [a, b, c]) η R := ⟨rfl, w_g3 h⟩
theorem rd_check_line (h : sp_check_line K C args P) : ts_check_line K C { nx := fun _ => P .non, rt := fun x _ => P x } (startP 1 args) := by
  obtain ⟨n, rs, rfl, hC, hp⟩ := h
  refine w_if (w_not (w_bl (w_cb (w_cons (w_var (x := lineP C n rs) rfl (w_cons (w_con (w_nil ⟨rfl, hC, ?_⟩))))))))
  exact q_iteF (w_next hp)
theorem rd_meet (h : sp_meet K C args P) : ts_meet K C { nx := fun _ => P .non, rt := fun x _ => P x } (startP 2 args) := by
  obtain ⟨a, b, rfl, hp⟩ := h
  have e : startP 2 [rowP a, rowP b] = [.va (rowP a), .va (rowP b)] := rfl
  rw [e]
  refine w_ret (w_andV (w_op (w_op (w_var (x := rowP a) rfl (w_con (q_ixT (x := .int a.2.1) rfl (w_op (w_var (x := rowP b) rfl (w_con (q_ixT (x := .int b.2.2) rfl (q_lt ?_)))))))))))
  unfold meetB at hp
  by_cases c1 : a.2.1 < b.2.2
  · rw [decide_eq_true c1] at hp ⊢
    refine w_op (w_op (w_var (x := rowP b) rfl (w_con (q_ixT (x := .int b.2.1) rfl (w_op (w_var (x := rowP a) rfl (w_con (q_ixT (x := .int a.2.2) rfl (q_lt ?_)))))))))
    rw [Bool.true_and] at hp
    exact hp
  · rw [decide_eq_false c1] at hp ⊢
    exact hp
theorem rd_overfull (h : sp_overfull K C args P) : ts_overfull K C { nx := fun _ => P .non, rt := fun x _ => P x } (startP 4 args) := by
  obtain ⟨n, rs, rfl, hC, hw, hp⟩ := h
  have e : startP 4 [lineP C n rs] = [.va (lineP C n rs), .no, .no, .no] := rfl
  rw [e]
  have hl := hw.len
  have qp := queue_perm rs
  refine w_seq (w_drop (w_call (w_cons (w_var (x := lineP C n rs) rfl (w_nil ⟨n, rs, rfl, hC, ?_⟩)))))
  dsimp only
  refine w_seq (w_for (w_walk rfl hl ?_))
  refine ⟨fun i η => (∀ r ∈ (queueT rs).take i, ¬ n < loadN rs r.2.1) ∧ ∃ a b c, η = [.va (lineP C n rs), a, b, c], ⟨fun _ z => (by cases z), _, _, _, rfl⟩, ?_, ?_⟩
  · rintro i x η hi ⟨hn, a, b, c, rfl⟩
    rw [List.getElem?_map] at hi
    obtain ⟨r, hr, rfl⟩ := Option.map_eq_some_iff.mp hi
    have hm := qp.mem_iff.mp (List.mem_of_getElem? hr)
    obtain ⟨_, r0, r1⟩ := hw.each r hm
    refine w_g3' ?_
    simp only [List.set_cons_zero, List.set_cons_succ]
    refine w_if (w_bl (w_op (w_meth (w_var (x := lineP C n rs) rfl ⟨⟨_, rfl, rfl⟩, w_cons (w_var (x := .int r.2.1) rfl (w_nil ⟨n, rs, r.2.1, rfl, r0, hl, w_prop' (w_var (x := lineP C n rs) rfl ⟨⟨_, rfl⟩, n, rs, rfl, q_gt ?_⟩)⟩))⟩))))
    refine q_ite (fun gt => w_ret (w_var (x := .int r.2.1) rfl ?_)) fun ng => w_next ⟨fun q hq => ?_, _, _, _, rfl⟩
    · have f : overR n rs = some r := by
        unfold overR
        obtain ⟨hil, er⟩ := List.getElem?_eq_some_iff.mp hr
        have sp : queueT rs = (queueT rs).take i ++ r :: (queueT rs).drop (i + 1) := by rw [← er, List.getElem_cons_drop, List.take_append_drop]
        rw [sp, List.find?_append, List.find?_eq_none.mpr (fun q hq => by simpa using hn q hq)]
        simp [gt]
      unfold overP at hp
      simp only [f] at hp
      exact hp
    · rw [List.take_succ, hr] at hq
      rcases List.mem_append.mp hq with z | z
      · exact hn q z
      · have z2 : q = r := by simpa using z
        rw [z2]
        exact ng
  · rintro η ⟨hn, a, b, c, rfl⟩
    rw [List.length_map, List.take_length] at hn
    have f : overR n rs = none := List.find?_eq_none.mpr fun q hq => by simpa using hn q hq
    unfold overP at hp
    simp only [f] at hp
    dsimp only
    exact w_ret (w_con hp)
theorem szAt_eq {n : Int} {q : List Trip} {i : Nat} {r : Trip} (h : q[i]? = some r) : szAt n q i = n - (((q.take i).filter (meetB r)).length : Int) := by
  unfold szAt; rw [h]
theorem rd_choices (h : sp_choices K C args P) : ts_choices K C { nx := fun _ => P .non, rt := fun x _ => P x } (startP 5 args) := by
  obtain ⟨n, rs, rfl, hl, hp⟩ := h
  have e : startP 5 [lineP C n rs] = [.va (lineP C n rs), .no, .no, .no, .no] := rfl
  rw [e]
  have ql := queue_len rs
  have sz : 1000 < sizeLine := by decide
  refine w_seq (w_setF (by decide) (w_lstF (w_nil ⟨by show 0 ≤ sizeLine; omega, by show 1 < 5; decide, ?_⟩)))
  simp only [List.set_cons_zero, List.set_cons_succ]
  refine w_seq (w_setF (by decide) (w_lstF (w_nil ⟨by show 0 ≤ sizeLine; omega, by show 2 < 5; decide, ?_⟩)))
  simp only [List.set_cons_zero, List.set_cons_succ]
  refine w_seq (w_for (w_walk rfl hl ?_))
  refine ⟨fun i η => ∃ s3 s4, η = [.va (lineP C n rs), .ow (.l (((queueT rs).take i).map rowP)), .ow (.l (((List.range i).map (szAt n (queueT rs))).map .int)), s3, s4], ⟨_, _, rfl⟩, ?_, ?_⟩
  · rintro i x η hi ⟨s3, s4, rfl⟩
    rw [List.getElem?_map] at hi
    obtain ⟨r, hr, rfl⟩ := Option.map_eq_some_iff.mp hi
    have hil : i < (queueT rs).length := (List.getElem?_eq_some_iff.mp hr).1
    refine w_gname ?_
    simp only [List.set_cons_zero, List.set_cons_succ]
    refine w_seq (w_app (xs := ((List.range i).map (szAt n (queueT rs))).map .int) rfl (w_op (w_prop' (w_var (x := lineP C n rs) rfl ⟨⟨_, rfl⟩, n, rs, rfl, ?_⟩))))
    refine w_cb (w_cons (w_val (w_lcO ⟨((queueT rs).take i).map rowP, rfl, by decide, ?_⟩)))
    refine ⟨fun j acc η => acc = ((((queueT rs).take i).take j).filter (meetB r)).map rowP ∧ η = [.va (lineP C n rs), .ow (.l (((queueT rs).take i).map rowP)), .ow (.l (((List.range i).map (szAt n (queueT rs))).map .int)), .va (rowP r), .no], ⟨rfl, rfl⟩, fun k acc η h => by rw [h.2]; rfl, ?_, ?_⟩
    · rintro j x acc η hj ⟨rfl, rfl⟩
      rw [List.getElem?_map] at hj
      obtain ⟨u, hu, rfl⟩ := Option.map_eq_some_iff.mp hj
      refine w_gname (w_bl (w_call (w_cons (w_var (x := rowP r) rfl (w_cons (w_var (x := rowP u) rfl (w_nil ⟨r, u, rfl, ?_⟩)))))))
      have fl : ((((queueT rs).take i).take j).filter (meetB r)).length < sizeLine := by
        have h1 := List.length_filter_le (meetB r) (((queueT rs).take i).take j)
        rw [List.length_take, List.length_take] at h1
        omega
      cases hm : meetB r u with
      | true =>
        refine q_iteT (w_var (x := rowP u) rfl ⟨by rw [List.length_map]; exact fl, ?_, rfl⟩)
        rw [take_filterT hu hm, List.map_append]
        rfl
      | false => exact q_iteF ⟨by rw [take_filterF hu hm], rfl⟩
    · rintro acc η ⟨rfl, rfl⟩
      rw [List.length_map, List.take_length]
      refine w_nil (q_len ?_)
      rw [List.length_map]
      refine q_sub ?_
      refine q_appM rfl (by rw [List.length_map, List.length_map, List.length_range]; omega) ?_
      simp only [List.set_cons_zero, List.set_cons_succ]
      refine w_app (xs := ((queueT rs).take i).map rowP) rfl (w_var (x := rowP r) rfl (q_appM rfl (by rw [List.length_map, List.length_take]; omega) ?_))
      simp only [List.set_cons_zero, List.set_cons_succ]
      refine ⟨.va (rowP r), .no, ?_⟩
      rw [take_map hr, List.range_succ, List.map_append, List.map_append, List.map_cons, List.map_nil, List.map_cons, List.map_nil, szAt_eq hr]
  · rintro η ⟨s3, s4, rfl⟩
    rw [List.length_map, List.take_length]
    dsimp only
    exact w_ret (w_varO (o := .l (((List.range (queueT rs).length).map (szAt n (queueT rs))).map .int)) rfl hp)
theorem prod_take {l : List Int} {i : Nat} {k : Int} (h : l[i]? = some k) : prodI (l.take (i + 1)) = prodI (l.take i) * k := by
  unfold prodI
  rw [List.take_succ, h, List.foldl_append]
  rfl
theorem szAt_bound {n : Int} {q : List Trip} {i : Nat} (h1 : 1 ≤ n) (h2 : n ≤ 20) (hq : q.length ≤ 24) : -24 ≤ szAt n q i ∧ szAt n q i ≤ 20 := by
  unfold szAt
  cases q[i]? with
  | none =>
    show -24 ≤ (0:Int) ∧ (0:Int) ≤ 20
    decide
  | some r =>
    have h3 := List.length_filter_le (meetB r) (q.take i)
    rw [List.length_take] at h3
    show -24 ≤ n - _ ∧ n - _ ≤ 20
    omega
theorem rd_count (h : sp_count K C args P) : ts_count K C { nx := fun _ => P .non, rt := fun x _ => P x } (startP 3 args) := by
  obtain ⟨n, rs, rfl, hC, n1, n2, hw, hp⟩ := h
  have e : startP 3 [lineP C n rs] = [.va (lineP C n rs), .no, .no] := rfl
  rw [e]
  have hl := hw.len
  have ql := queue_len rs
  refine w_seq (w_if (w_bl (w_op (w_call (w_cons (w_var (x := lineP C n rs) rfl (w_nil ⟨n, rs, rfl, hC, hw, w_con ?_⟩)))))))
  unfold overP
  unfold countI at hp
  cases ho : overR n rs with
  | some r =>
    rw [ho] at hp
    refine q_isnN ?_ rfl
    exact q_iteT (w_ret (w_con hp))
  | none =>
    rw [ho] at hp
    refine q_isnN ?_ rfl
    refine q_iteF (w_next ?_)
    dsimp only
    refine w_seq (w_set (w_con ?_))
    simp only [List.set_cons_zero, List.set_cons_succ]
    refine w_seq (w_for (w_lstP (w_call (w_cons (w_var (x := lineP C n rs) rfl (w_nil ⟨n, rs, rfl, hl, ?_⟩))))))
    refine ⟨fun i η => ∃ s2, η = [.va (lineP C n rs), .va (.int (prodI ((sizesI n (queueT rs)).take i))), s2], ⟨_, rfl⟩, ?_, ?_⟩
    · rintro i x η hi ⟨s2, rfl⟩
      rw [List.getElem?_map] at hi
      obtain ⟨k, hk, rfl⟩ := Option.map_eq_some_iff.mp hi
      have hb : -24 ≤ k ∧ k ≤ 20 := by
        unfold sizesI at hk
        rw [List.getElem?_map] at hk
        obtain ⟨j, _, rfl⟩ := Option.map_eq_some_iff.mp hk
        exact szAt_bound n1 n2 (by omega)
      refine w_gname ?_
      simp only [List.set_cons_zero, List.set_cons_succ]
      refine w_aug rfl (w_var (x := .int k) rfl ⟨_, rfl, .inr ⟨by omega, by omega⟩, ?_⟩)
      simp only [List.set_cons_zero, List.set_cons_succ]
      refine ⟨.va (.int k), ?_⟩
      rw [prod_take hk]
    · rintro η ⟨s2, rfl⟩
      rw [List.length_map, List.take_length]
      dsimp only
      exact w_ret (w_var (x := .int (prodI (sizesI n (queueT rs)))) rfl hp)
end
end Z
set_option Elab.async false
set_option linter.all false
set_option maxRecDepth 100000
namespace Z
open PySem PySem.Spec L2
open PyProof.Rows hiding St
/-! ### the queue rises by starts -/
theorem qLe_eq (a b : Trip) : qLe a b = decide (a.2.1 < b.2.1 ∨ (a.2.1 = b.2.1 ∧ a.1.cps.toList ≤ b.1.cps.toList)) := by
  show (!PySem.W.dataLt (.tuple [.int b.2.1, .str b.1]) (.tuple [.int a.2.1, .str a.1])) = _
  rw [PySem.W.dataLt_pair (by simp [PySem.W.alike]) (by simp [PySem.W.alike])]
  have e1 : (!PySem.W.dataLt (.int b.2.1) (.int a.2.1)) = decide (a.2.1 ≤ b.2.1) := congrFun (congrFun (PySem.W.dataLe_int (fun r : Trip => r.2.1)) a) b
  have e2 : (!PySem.W.dataLt (.str b.1) (.str a.1)) = decide (a.1.cps.toList ≤ b.1.cps.toList) := congrFun (congrFun (PySem.W.dataLe_str (fun r : Trip => r.1)) a) b
  have e3 : PyData.eqv (.int b.2.1) (.int a.2.1) = decide (b.2.1 = a.2.1) := by simp only [PyData.eqv]; rw [Bool.eq_iff_iff]; simp
  have e4 : PyData.eqv (.str b.1) (.str a.1) = decide (b.1 = a.1) := by simp only [PyData.eqv]; rw [Bool.eq_iff_iff]; simp
  rw [e3, e4]
  by_cases c : b.2.1 = a.2.1
  · rw [decide_eq_true c, if_pos rfl]
    by_cases d : b.1 = a.1
    · rw [decide_eq_true d, if_pos rfl, d, c]
      exact (decide_eq_true (.inr ⟨rfl, List.le_refl _⟩)).symm
    · rw [decide_eq_false d, if_neg Bool.false_ne_true, e2, Bool.eq_iff_iff, decide_eq_true_iff, decide_eq_true_iff]
      exact ⟨fun h => .inr ⟨c.symm, h⟩, fun h => h.elim (fun z => by omega) fun z => z.2⟩
  · rw [decide_eq_false c, if_neg Bool.false_ne_true, e1, Bool.eq_iff_iff, decide_eq_true_iff, decide_eq_true_iff]
    exact ⟨fun h => .inl (by omega), fun h => h.elim (fun z => by omega) fun z => by omega⟩
theorem qLe_trans (a b c : Trip) (h1 : qLe a b = true) (h2 : qLe b c = true) : qLe a c = true := by
  rw [qLe_eq, decide_eq_true_iff] at *
  rcases h1 with h1 | ⟨h1, l1⟩ <;> rcases h2 with h2 | ⟨h2, l2⟩
  · exact .inl (by omega)
  · exact .inl (by omega)
  · exact .inl (by omega)
  · exact .inr ⟨by omega, List.le_trans l1 l2⟩
theorem qLe_total (a b : Trip) : (qLe a b || qLe b a) = true := by
  rw [Bool.or_eq_true, qLe_eq, qLe_eq, decide_eq_true_iff, decide_eq_true_iff]
  rcases Int.lt_trichotomy a.2.1 b.2.1 with c | c | c
  · exact .inl (.inl c)
  · rcases List.le_total a.1.cps.toList b.1.cps.toList with d | d
    · exact .inl (.inr ⟨c, d⟩)
    · exact .inr (.inr ⟨c.symm, d⟩)
  · exact .inr (.inl c)
theorem queue_up (rs : List Trip) : (queueT rs).Pairwise fun a b => a.2.1 ≤ b.2.1 := by
  refine (List.pairwise_mergeSort qLe_trans qLe_total rs).imp fun {a b} h => ?_
  rw [qLe_eq, decide_eq_true_iff] at h
  omega
theorem load_queue (rs : List Trip) (st : Int) : loadN rs st = (((queueT rs).filter (passes st)).length : Int) := by
  unfold loadN
  rw [((queue_perm rs).filter (passes st)).length_eq]
end Z
set_option Elab.async false
set_option linter.all false
set_option maxRecDepth 100000
namespace Z
open PySem PySem.Spec L2
open PyProof.Rows hiding St
/-! ### promises: lines with one trip more, or some less -/
def Asc (us : List Trip) : Prop := us.Pairwise fun a b => a.1.cps.toList < b.1.cps.toList
def sp_check_stations : PrP := fun K C args P => ∃ st en, args = [.int st, .int en] ∧ 0 ≤ st ∧ st < en ∧ P .non
def sp_Line_trip : PrP := fun K C args P => ∃ n rs r, args = [lineP C n rs, .str r.1] ∧ Rw rs ∧ r ∈ rs ∧ P (rowP r)
def sp_Line_added : PrP := fun K C args P => ∃ n rs r, args = [lineP C n rs, .str r.1, .int r.2.1, .int r.2.2] ∧ 1 ≤ n ∧ n ≤ 20 ∧ Rw rs ∧ rs.length < 24 ∧ isNm (.str r.1) = true ∧ 0 ≤ r.2.1 ∧ r.2.1 < r.2.2 ∧ (∀ q ∈ rs, q.1 ≠ r.1) ∧ ∀ us : List Trip, us.Perm (rs ++ [r]) → Asc us → P (lineP C n us)
def sp_Line_without : PrP := fun K C args P => ∃ n rs ws, args = [lineP C n rs, .tup (ws.map .str)] ∧ 1 ≤ n ∧ n ≤ 20 ∧ Rw rs ∧ (∀ w ∈ ws, ∃ r ∈ rs, r.1 = w) ∧ P (lineP C n (restR rs ws))
def ts_check_stations (K : PySem.W.Frag) (CLine : Addr) : TSp := tSeqP (tIfSP (tNotP (tBlP (tCallP (sp_is_station K CLine) [] (tConsP (tVarP 0) (tNilP))))) (tNevP) (tNextP)) (tIfSP (tNotP (tBlP (tCallP (sp_is_later K CLine) [] (tConsP (tVarP 1) (tConsP (tVarP 0) (tNilP)))))) (tNevP) (tNextP))
def ts_Line_trip (K : PySem.W.Frag) (CLine : Addr) : TSp := tSeqP (tSetP 2 (tCallP (sp_trip_named K CLine) [] (tConsP (tFldP CLine ("rows" : Str) (tVarP 0)) (tConsP (tVarP 1) (tNilP))))) (tSeqP (tIfSP (tBlP (tOpP (rIsN false) (tVarP 2) (tConP .non))) (tNevP) (tNextP)) (tRetP (tVarP 2)))
def ts_Line_added (K : PySem.W.Frag) (CLine : Addr) : TSp := tSeqP (tIfSP (tNotP (tBlP (tCallP (sp_is_trip_name K CLine) [] (tConsP (tVarP 1) (tNilP))))) (tNevP) (tNextP)) (tSeqP (tDropP (tCallP (sp_check_stations K CLine) [] (tConsP (tVarP 2) (tConsP (tVarP 3) (tNilP))))) (tSeqP (tIfSP (tBlP (tOpP (rIsN true) (tCallP (sp_trip_named K CLine) [] (tConsP (tFldP CLine ("rows" : Str) (tVarP 0)) (tConsP (tVarP 1) (tNilP)))) (tConP .non))) (tNevP) (tNextP)) (tSeqP (tIfSP (tBlP (tOpP (rEqI false) (tCBP rLen (tConsP (tFldP CLine ("rows" : Str) (tVarP 0)) (tNilP))) (tConP (.int 24)))) (tNevP) (tNextP)) (tRetP (tNewP CLine (sp_Line_init K CLine) [] (tConsP (tFldP CLine ("seat_count" : Str) (tVarP 0)) (tConsP (tCBP rTuple (tConsP (tCBP rSortD (tConsP (tLstP (tStarP (tFldP CLine ("rows" : Str) (tVarP 0)) (tConsP (tTupP (tConsP (tVarP 1) (tConsP (tVarP 2) (tConsP (tVarP 3) (tNilP))))) (tNilP)))) (tNilP))) (tNilP))) (tNilP))))))))
def ts_Line_without (K : PySem.W.Frag) (CLine : Addr) : TSp := tSeqP (tForP (iTupP (tVarP 1)) (gNameP 2) (tIfSP (tBlP (tOpP (rIsN false) (tCallP (sp_trip_named K CLine) [] (tConsP (tFldP CLine ("rows" : Str) (tVarP 0)) (tConsP (tVarP 2) (tNilP)))) (tConP .non))) (tNevP) (tNextP))) (tRetP (tNewP CLine (sp_Line_init K CLine) [] (tConsP (tFldP CLine ("seat_count" : Str) (tVarP 0)) (tConsP (tCBP rTuple (tConsP (tValP (tLcP (iTupP (tFldP CLine ("rows" : Str) (tVarP 0))) (gNameP 3) (tBlP (tOpP (rInL true) (tOpP rIxP (tVarP 3) (tConP (.int 0))) (tVarP 1))) (tVarP 3) [3])) (tNilP))) (tNilP)))))
section
variable {K : PySem.W.Frag} {C : Addr} {args : List PV} {P : PV → Prop} {PR : PV → Ow → Prop} {o : Ow}
theorem len_check_stations (h : sp_check_stations K C args P) : args.length = 2 := by
  obtain ⟨_, _, rfl, _⟩ := h; rfl
theorem len_Line_trip (h : sp_Line_trip K C args P) : args.length = 2 := by
  obtain ⟨_, _, _, rfl, _⟩ := h; rfl
theorem len_Line_added (h : sp_Line_added K C args P) : args.length = 4 := by
  obtain ⟨_, _, _, rfl, _⟩ := h; rfl
theorem len_Line_without (h : sp_Line_without K C args P) : args.length = 2 := by
  obtain ⟨_, _, _, rfl, _⟩ := h; rfl
end
end Z
set_option Elab.async false
set_option linter.all false
set_option maxRecDepth 100000
namespace Z
open PySem PySem.Spec L2
open PyProof.Rows hiding St
section
variable {K : PySem.W.Frag} {C : Addr} {args : List PV} {P : PV → Prop} {PR : PV → Ow → Prop} {o : Ow}
theorem named_in {rs : List Trip} {r : Trip} (hw : Rw rs) (hr : r ∈ rs) : namedP rs (.str r.1) = rowP r := by
  unfold namedP
  have hnd := asc_nodup hw
  have f : rs.find? (fun q => decide (q.1 = r.1)) = some r := by
    cases e : rs.find? (fun q => decide (q.1 = r.1)) with
    | none => exact absurd (decide_eq_true rfl) (List.find?_eq_none.mp e r hr)
    | some q =>
      have hq := List.mem_of_find?_eq_some e
      have he : q.1 = r.1 := by simpa using List.find?_some e
      have : q = r := by
        obtain ⟨i, hi, rfl⟩ := List.mem_iff_getElem.mp hq
        obtain ⟨j, hj, rfl⟩ := List.mem_iff_getElem.mp hr
        have := (List.getElem_inj (i := i) (j := j) (h₀ := by rw [List.length_map]; exact hi) (h₁ := by rw [List.length_map]; exact hj) hnd).mp (by rw [List.getElem_map, List.getElem_map]; exact he)
        subst this
        rfl
      rw [this]
  simp only [f]
theorem named_out {rs : List Trip} {w : Str} (h : ∀ q ∈ rs, q.1 ≠ w) : namedP rs (.str w) = .non := by
  unfold namedP
  have f : rs.find? (fun q => decide (q.1 = w)) = none := List.find?_eq_none.mpr fun q hq => by simpa using h q hq
  simp only [f]
theorem perm_asc {us vs : List Trip} (h : us.Perm vs) (hu : Asc us) (hv : Asc vs) : us = vs := by
  refine h.eq_of_pairwise (le := fun a b : Trip => a.1.cps.toList < b.1.cps.toList) (fun a b _ _ h1 h2 => ?_) hu hv
  exact absurd (List.lt_trans h1 h2) (List.lt_irrefl _)
theorem q_isN0 {Q : PV → Prop} (h : Q (.bl true)) : rIsN false .non .non Q := ⟨true, rfl, h⟩
theorem q_isNR {r : Trip} {Q : PV → Prop} (h : Q (.bl false)) : rIsN false (rowP r) .non Q := ⟨false, rfl, h⟩
theorem q_isNn {Q : PV → Prop} (h : Q (.bl false)) : rIsN true .non .non Q := ⟨true, rfl, h⟩
theorem rd_check_stations (h : sp_check_stations K C args P) : ts_check_stations K C { nx := fun _ => P .non, rt := fun x _ => P x } (startP 2 args) := by
  obtain ⟨st, en, rfl, h0, h1, hp⟩ := h
  have e : startP 2 [.int st, .int en] = [.va (.int st), .va (.int en)] := rfl
  rw [e]
  refine w_seq (w_if (w_not (w_bl (w_call (w_cons (w_var rfl (w_nil ⟨.int st, rfl, .inl rfl, ?_⟩)))))))
  rw [show isStn (.int st) = true from decide_eq_true h0]
  refine q_iteF (w_next ?_)
  dsimp only
  refine w_if (w_not (w_bl (w_call (w_cons (w_var (x := .int en) rfl (w_cons (w_var (x := .int st) rfl (w_nil ⟨.int en, st, rfl, .inl rfl, ?_⟩))))))))
  rw [show isLat st (.int en) = true from decide_eq_true h1]
  exact q_iteF (w_next hp)
theorem rd_Line_trip (h : sp_Line_trip K C args P) : ts_Line_trip K C { nx := fun _ => P .non, rt := fun x _ => P x } (startP 3 args) := by
  obtain ⟨n, rs, r, rfl, hw, hr, hp⟩ := h
  have e : startP 3 [lineP C n rs, .str r.1] = [.va (lineP C n rs), .va (.str r.1), .no] := rfl
  rw [e]
  refine w_seq (w_set (w_call (w_cons (w_fld (w_var (x := lineP C n rs) rfl ⟨rfl, _, rfl, w_cons (w_var (x := .str r.1) rfl (w_nil ⟨rs, .str r.1, rfl, .inl rfl, ?_⟩))⟩)))))
  rw [named_in hw hr]
  simp only [List.set_cons_zero, List.set_cons_succ]
  refine w_seq (w_if (w_bl (w_op (w_var (x := rowP r) rfl (w_con (q_isNR ?_))))))
  refine q_iteF (w_next ?_)
  dsimp only
  exact w_ret (w_var (x := rowP r) rfl hp)
theorem rd_Line_added (h : sp_Line_added K C args P) : ts_Line_added K C { nx := fun _ => P .non, rt := fun x _ => P x } (startP 4 args) := by
  obtain ⟨n, rs, r, rfl, n1, n2, hw, hl, hnm, r0, r1, hno, hp⟩ := h
  have e : startP 4 [lineP C n rs, .str r.1, .int r.2.1, .int r.2.2] = [.va (lineP C n rs), .va (.str r.1), .va (.int r.2.1), .va (.int r.2.2)] := rfl
  rw [e]
  have sz : 1000 < sizeLine := by decide
  have hshort : r.1.length ≤ 8 := by
    have e : (decide (1 ≤ r.1.length) && (decide (r.1.length ≤ 8) && r.1.cps.toList.all fun c => decide (c ∈ abc.cps.toList))) = true := hnm
    exact of_decide_eq_true (Bool.and_eq_true_iff.mp (Bool.and_eq_true_iff.mp e).2).1
  refine w_seq (w_if (w_not (w_bl (w_call (w_cons (w_var (x := .str r.1) rfl (w_nil ⟨.str r.1, rfl, .inl rfl, fun z e => by cases e; omega, ?_⟩)))))))
  rw [hnm]
  refine q_iteF (w_next ?_)
  dsimp only
  refine w_seq (w_drop (w_call (w_cons (w_var (x := .int r.2.1) rfl (w_cons (w_var (x := .int r.2.2) rfl (w_nil ⟨r.2.1, r.2.2, rfl, r0, r1, ?_⟩)))))))
  dsimp only
  refine w_seq (w_if (w_bl (w_op (w_call (w_cons (w_fld (w_var (x := lineP C n rs) rfl ⟨rfl, _, rfl, w_cons (w_var (x := .str r.1) rfl (w_nil ⟨rs, .str r.1, rfl, .inl rfl, ?_⟩))⟩)))))))
  rw [named_out hno]
  refine w_con (q_isNn (q_iteF (w_next ?_)))
  dsimp only
  refine w_seq (w_if (w_bl (w_op (w_cb (w_cons (w_fld (w_var (x := lineP C n rs) rfl ⟨rfl, _, rfl, w_nil (q_lenT ?_)⟩)))))))
  rw [List.length_map]
  refine w_con (q_eqN ?_)
  rw [show decide ((rs.length : Int) = 24) = false from decide_eq_false (by omega)]
  refine q_iteF (w_next ?_)
  dsimp only
  refine w_ret (w_new' (w_cons (w_fld (w_var (x := lineP C n rs) rfl ⟨rfl, _, rfl, ?_⟩))))
  refine w_cons (w_cb (w_cons (w_cb (w_cons (w_lst (w_star (w_fld (w_var (x := lineP C n rs) rfl ⟨rfl, _, rfl, ?_⟩))))))))
  refine w_cons (w_tup (w_cons (w_var (x := .str r.1) rfl (w_cons (w_var (x := .int r.2.1) rfl (w_cons (w_var (x := .int r.2.2) rfl (w_nil ⟨sz3, ?_⟩))))))))
  have el : rs.map rowP ++ [PV.tup [.str r.1, .int r.2.1, .int r.2.2]] = (rs ++ [r]).map rowP := by
    rw [List.map_append]; rfl
  have hnd : ((rs ++ [r]).map (·.1)).Nodup := by
    rw [List.map_append, List.nodup_append]
    refine ⟨asc_nodup hw, by simp, fun a ha b hb e => ?_⟩
    obtain ⟨q, hq, rfl⟩ := List.mem_map.mp ha
    have : b = r.1 := by simpa using hb
    exact hno q hq (e.trans this)
  refine w_nil ⟨?_, ?_⟩
  · rw [el, List.length_map, List.length_append]
    show rs.length + 1 ≤ sizeLine
    omega
  rw [el]
  refine w_nil (q_sort hnd (by rw [List.length_append]; show rs.length + 1 ≤ 24; omega) fun us pm asc => ?_)
  refine w_nil (q_tupl (w_nil ⟨n, us, rfl, rfl, n1, n2, ⟨?_, fun q hq => ?_, asc⟩, rfl, _, rfl, hp us pm asc⟩))
  · rw [pm.length_eq, List.length_append]; show rs.length + 1 ≤ 24; omega
  · rcases List.mem_append.mp (pm.mem_iff.mp hq) with z | z
    · exact hw.each q z
    · have : q = r := by simpa using z
      rw [this]
      exact ⟨hnm, r0, r1⟩
theorem rw_rest {rs : List Trip} (ws : List Str) (h : Rw rs) : Rw (restR rs ws) := rw_sub List.filter_sublist h
theorem near_rest {rs : List Trip} (ws : List Str) (h : Near rs) : Near (restR rs ws) := near_sub List.filter_sublist h
theorem rd_Line_without (h : sp_Line_without K C args P) : ts_Line_without K C { nx := fun _ => P .non, rt := fun x _ => P x } (startP 4 args) := by
  obtain ⟨n, rs, ws, rfl, h1, h2, hw, hin, hp⟩ := h
  have e : startP 4 [lineP C n rs, .tup (ws.map .str)] = [.va (lineP C n rs), .va (.tup (ws.map .str)), .no, .no] := rfl
  rw [e]
  have hl := hw.len
  refine w_seq (w_for (w_itup (w_var (x := .tup (ws.map .str)) rfl ⟨fun i η => ∃ s, η = [.va (lineP C n rs), .va (.tup (ws.map .str)), s, .no], ⟨_, rfl⟩, ?_, ?_⟩)))
  · rintro i x η hi ⟨s, rfl⟩
    rw [List.getElem?_map] at hi
    obtain ⟨w, hr, rfl⟩ := Option.map_eq_some_iff.mp hi
    refine w_gname ?_
    simp only [List.set_cons_zero, List.set_cons_succ]
    refine w_if (w_bl (w_op (w_call (w_cons (w_fld (w_var (x := lineP C n rs) rfl ⟨rfl, _, rfl, w_cons (w_var (x := .str w) rfl (w_nil ⟨rs, .str w, rfl, .inl rfl, ?_⟩))⟩))))))
    obtain ⟨r0, hr0, er0⟩ := hin w (List.mem_of_getElem? hr)
    subst er0
    rw [named_in hw hr0]
    refine w_con (q_isNR ?_)
    exact q_iteF (w_next ⟨_, rfl⟩)
  · rintro η ⟨s, rfl⟩
    dsimp only
    refine w_ret (w_new' (w_cons (w_fld (w_var (x := lineP C n rs) rfl ⟨rfl, _, rfl, w_cons (w_cb (w_cons (w_val (w_lc (w_itup (w_fld (w_var (x := lineP C n rs) rfl ⟨rfl, _, rfl, ?_⟩)))))))⟩))))
    refine ⟨fun i acc η => acc = ((rs.take i).filter fun r => !decide (r.1 ∈ ws)).map rowP ∧ η = [.va (lineP C n rs), .va (.tup (ws.map .str)), s, .no], ⟨rfl, rfl⟩, ?_, ?_⟩
    · rintro i x acc η hi ⟨rfl, rfl⟩
      rw [List.getElem?_map] at hi
      obtain ⟨r, hr, rfl⟩ := Option.map_eq_some_iff.mp hi
      refine w_gname (w_bl (w_op (w_op (w_var (x := rowP r) rfl (w_con (q_ixT rfl (w_var (x := .tup (ws.map .str)) rfl (q_notInT ?_))))))))
      cases hb : (!decide (r.1 ∈ ws))
      · refine q_iteF ⟨?_, rfl⟩
        rw [take_filterF hr hb]
      · refine q_iteT (w_var (x := rowP r) rfl ⟨by rw [List.length_map]; exact filt_len hl, ?_, rfl⟩)
        rw [take_filterT hr hb, List.map_append]
        rfl
    · rintro acc η ⟨rfl, rfl⟩
      rw [List.length_map, List.take_length]
      refine w_nil (q_tupl (w_nil ⟨n, restR rs ws, rfl, rfl, h1, h2, rw_rest ws hw, rfl, _, rfl, hp⟩))
end
end Z
set_option Elab.async false
set_option linter.all false
set_option maxRecDepth 100000
namespace Z
open PySem PySem.Spec L2
open PyProof.Rows hiding St
/-! ### plans of the program -/
abbrev Pair := Str × Int
abbrev Seat := Trip × Int
def pairS (p : Pair) : PV := .tup [.str p.1, .int p.2]
def planV (ps : List Pair) : PV := .tup (ps.map pairS)
def seatP (x : Seat) : PV := .tup [rowP x.1, .int x.2]
def seatPair (x : Seat) : Pair := (x.1.1, x.2)
def AscP (ps : List Pair) : Prop := ps.Pairwise fun a b => a.1.cps.toList < b.1.cps.toList
def takenL (r : Trip) (sd : List Seat) : List Int := (sd.filter fun x => meetB r x.1).map fun x => x.2
def upto (n : Int) : List Int := (List.range n.toNat).map fun (i : Nat) => 1 + (i : Int)
def leftL (n : Int) (r : Trip) (sd : List Seat) : List Int := (upto n).filter fun s => !decide (s ∈ takenL r sd)
/-- digits of m, the sizes from the last one on -/
def digR : Int → List Int → List Int
  | _, [] => []
  | m, k :: ks => m % k :: digR (m / k) ks
def digitsL (m : Int) (ks : List Int) : List Int := (digR m ks.reverse).reverse
/-- the trips of a queue seated, by digits -/
def seatAll (n : Int) : List Trip → List Int → List Seat → List Seat
  | r :: q, d :: ds, sd => seatAll n q ds (sd ++ [(r, (leftL n r sd).getD d.toNat 0)])
  | _, _, sd => sd
def seatsN (n : Int) (rs : List Trip) (m : Int) : List Seat := seatAll n (queueT rs) (digitsL m (sizesI n (queueT rs))) []
def KnP (K : PySem.W.Frag) (x : PV) : Prop := Kn K x ∧ ∀ a b, x = .tup [a, b] → Kn K a ∧ Kn K b
def isPairB : PV → Bool
  | .tup xs => decide ((xs.length : Int) = 2)
  | _ => false
def isSeatB (n : Int) : PV → Bool
  | .int s => decide (1 ≤ s) && decide (s ≤ n)
  | _ => false
def hasName (rs : List Trip) : PV → Bool
  | .str w => (rs.find? fun r => decide (r.1 = w)).isSome
  | _ => false
def pairOkB (n : Int) (rs : List Trip) : PV → Bool
  | .tup [a, b] => hasName rs a && isSeatB n b
  | _ => false
def seatV (n : Int) (r : Trip) (sd : List Seat) : PV → Option Int
  | .tup [.str w, .int s] => if w = r.1 ∧ s ∈ leftL n r sd then some s else none
  | _ => none
def validGo (n : Int) : List Trip → List PV → List Seat → Nat
  | r :: q, x :: xs, sd => match seatV n r sd x with
    | some s => validGo n q xs (sd ++ [(r, s)])
    | none => sd.length
  | _, _, sd => sd.length
def isPlanB (n : Int) (rs : List Trip) : PV → Bool
  | .tup xs => decide ((xs.length : Int) = (rs.length : Int)) && decide ((validGo n rs xs [] : Int) = (xs.length : Int))
  | _ => false
abbrev PrF := PySem.W.Frag → Addr → SpF
def sp_is_pair : PrP := fun K C args P => ∃ x, args = [x] ∧ Kn K x ∧ P (.bl (isPairB x))
def sp_is_seat : PrP := fun K C args P => ∃ x n, args = [x, .int n] ∧ Kn K x ∧ P (.bl (isSeatB n x))
def sp_names_trip_and_seat : PrP := fun K C args P => ∃ n rs x, args = [lineP C n rs, x] ∧ KnP K x ∧ P (.bl (pairOkB n rs x))
def sp_seats_left : PrF := fun K C args P => ∃ n r sd, args = [.int n, rowP r, .lst (sd.map seatP)] ∧ 0 ≤ n ∧ n ≤ 20 ∧ sd.length ≤ 24 ∧ P ((leftL n r sd).map .int)
def sp_plan_of : PrR := fun K C o args P => ∃ sd : List Seat, o = .l (sd.map seatP) ∧ args = [] ∧ (sd.map fun x => x.1.1).Nodup ∧ sd.length ≤ 24 ∧ ∀ ps : List Pair, ps.Perm (sd.map seatPair) → AscP ps → P (planV ps) (.l (sd.map seatP))
def sp_digits_of : PrP := fun K C args P => ∃ m ks, args = [.int m, .lst (ks.map .int)] ∧ (∀ k ∈ ks, 1 ≤ k ∧ k ≤ 20) ∧ ks.length ≤ 24 ∧ P (.lst ((digitsL m ks).map .int))
def sp_numbered : PrP := fun K C args P => ∃ n rs m, args = [lineP C n rs, .int m] ∧ 1 ≤ n ∧ n ≤ 20 ∧ Rw rs ∧ overR n rs = none ∧ ∀ ps : List Pair, ps.Perm ((seatsN n rs m).map seatPair) → AscP ps → P (planV ps)
def sp_plan_at : PrP := fun K C args P => ∃ n rs m, args = [lineP C n rs, .int m] ∧ ClsT K C ∧ 1 ≤ n ∧ n ≤ 20 ∧ Rw rs ∧ 0 ≤ m ∧ m < countI n rs ∧ ∀ ps : List Pair, ps.Perm ((seatsN n rs m).map seatPair) → AscP ps → P (planV ps)
def sp_valid_pairs : PrP := fun K C args P => ∃ n rs xs, args = [lineP C n rs, .tup xs] ∧ 1 ≤ n ∧ n ≤ 20 ∧ Rw rs ∧ (∀ x ∈ xs, KnP K x) ∧ P (.int (validGo n rs xs []))
def sp_is_plan : PrP := fun K C args P => ∃ n rs x, args = [lineP C n rs, x] ∧ ClsT K C ∧ 1 ≤ n ∧ n ≤ 20 ∧ Rw rs ∧ Kn K x ∧ (∀ xs, x = .tup xs → ∀ y ∈ xs, KnP K y) ∧ P (.bl (isPlanB n rs x))
def ts_is_pair (K : PySem.W.Frag) (CLine : Addr) : TSp := tRetP (tAndVP (tCBP (rIsI K) (tConsP (tVarP 0) (tConsP (tConP (.raw (.ty "tuple"))) (tNilP)))) (tOpP (rEqI false) (tCBP rLen (tConsP (tVarP 0) (tNilP))) (tConP (.int 2))))
def ts_is_seat (K : PySem.W.Frag) (CLine : Addr) : TSp := tRetP (tAndVP (tCallP (sp_is_integer K CLine) [] (tConsP (tVarP 0) (tNilP))) (tChainP rLe rLe (tConP (.int 1)) (tVarP 0) (tVarP 1)))
def ts_names_trip_and_seat (K : PySem.W.Frag) (CLine : Addr) : TSp := tSeqP (tIfSP (tNotP (tBlP (tCallP (sp_is_pair K CLine) [] (tConsP (tVarP 1) (tNilP))))) (tRetP (tConP (.bl false))) (tNextP)) (tSeqP (tAsgP (tVarP 1) (gTupP 2 (gConsP (gNameP 2) (gConsP (gNameP 3) (gNilP))))) (tRetP (tAndVP (tOpP (rIsN true) (tCallP (sp_trip_named K CLine) [] (tConsP (tPropP CLine (sp_Line_trips K CLine) (tVarP 0)) (tConsP (tVarP 2) (tNilP)))) (tConP .non)) (tCallP (sp_is_seat K CLine) [] (tConsP (tVarP 3) (tConsP (tPropP CLine (sp_Line_capacity K CLine) (tVarP 0)) (tNilP)))))))
def ts_seats_left (K : PySem.W.Frag) (CLine : Addr) : TFp := tSeqFP (tSetP 3 (tValP (tLcP (iListP (tVarP 2)) (gTupP 2 (gConsP (gNameP 4) (gConsP (gNameP 5) (gNilP)))) (tBlP (tCallP (sp_meet K CLine) [] (tConsP (tVarP 1) (tConsP (tVarP 4) (tNilP))))) (tVarP 5) [4, 5]))) (tLcP (iRng2P (tConP (.int 1)) (tOpP rAdd (tVarP 0) (tConP (.int 1)))) (gNameP 5) (tBlP (tOpP (rInL true) (tVarP 5) (tVarP 3))) (tVarP 5) [5])
def ts_plan_of (K : PySem.W.Frag) (CLine : Addr) : TSp := tRetP (tCBP rTuple (tConsP (tCBP rSortD (tConsP (tValP (tLcOP 0 (gTupP 2 (gConsP (gNameP 1) (gConsP (gNameP 2) (gNilP)))) (tYesP) (tTupP (tConsP (tOpP rIxP (tVarP 1) (tConP (.int 0))) (tConsP (tVarP 2) (tNilP)))) [1, 2])) (tNilP))) (tNilP)))
def ts_digits_of (K : PySem.W.Frag) (CLine : Addr) : TSp := tSeqP (tSetFP 2 (tLstFP (tNilP))) (tSeqP (tForP (iRevP (tVarP 1)) (gNameP 3) (tSeqP (tAppP 2 (tOpP rMod (tVarP 0) (tVarP 3))) (tSetP 0 (tOpP rDiv (tVarP 0) (tVarP 3))))) (tRetP (tRevLP (tVarP 2))))
def ts_numbered (K : PySem.W.Frag) (CLine : Addr) : TSp := tSeqP (tSetP 2 (tCallP (sp_digits_of K CLine) [] (tConsP (tVarP 1) (tConsP (tCallP (sp_choices K CLine) [] (tConsP (tVarP 0) (tNilP))) (tNilP))))) (tSeqP (tSetFP 3 (tLstFP (tNilP))) (tSeqP (tForP (iWalkZP CLine ("walk" : Str) ("queue" : Str) (tVarP 0) 2) (gTupP 2 (gConsP (gNameP 4) (gConsP (gNameP 5) (gNilP)))) (tSeqP (tSetP 6 (tValP (tCallFOP (sp_seats_left K CLine) (tConsP (tPropP CLine (sp_Line_capacity K CLine) (tVarP 0)) (tConsP (tVarP 4) (tNilP))) 3))) (tAppP 3 (tTupP (tConsP (tVarP 4) (tConsP (tOpP rIxP (tVarP 6) (tVarP 5)) (tNilP))))))) (tRetP (tCallRP 3 (sp_plan_of K CLine) (tNilP)))))
def ts_plan_at (K : PySem.W.Frag) (CLine : Addr) : TSp := tSeqP (tDropP (tCallP (sp_check_line K CLine) [] (tConsP (tVarP 0) (tNilP)))) (tSeqP (tIfSP (tOrP (tNotP (tBlP (tCallP (sp_is_integer K CLine) [] (tConsP (tVarP 1) (tNilP))))) (tNotP (tBlP (tChainP rLe rLt (tConP (.int 0)) (tVarP 1) (tCallP (sp_count K CLine) [] (tConsP (tVarP 0) (tNilP))))))) (tNevP) (tNextP)) (tRetP (tCallP (sp_numbered K CLine) [] (tConsP (tVarP 0) (tConsP (tVarP 1) (tNilP))))))
def ts_valid_pairs (K : PySem.W.Frag) (CLine : Addr) : TSp := tSeqP (tSetFP 2 (tLstFP (tNilP))) (tSeqP (tForP (iZipP (tConsP (tPropP CLine (sp_Line_trips K CLine) (tVarP 0)) (tConsP (tVarP 1) (tNilP)))) (gTupP 2 (gConsP (gNameP 3) (gConsP (gNameP 4) (gNilP)))) (tSeqP (tIfSP (tOrP (tNotP (tBlP (tCallP (sp_names_trip_and_seat K CLine) [] (tConsP (tVarP 0) (tConsP (tVarP 4) (tNilP)))))) (tBlP (tOpP (rEqI true) (tOpP rIxP (tVarP 4) (tConP (.int 0))) (tOpP rIxP (tVarP 3) (tConP (.int 0)))))) (tRetP (tCBP rLen (tConsP (tVarP 2) (tNilP)))) (tNextP)) (tSeqP (tIfSP (tBlP (tOpP (rInL true) (tOpP rIxP (tVarP 4) (tConP (.int 1))) (tValP (tCallFOP (sp_seats_left K CLine) (tConsP (tPropP CLine (sp_Line_capacity K CLine) (tVarP 0)) (tConsP (tVarP 3) (tNilP))) 2)))) (tRetP (tCBP rLen (tConsP (tVarP 2) (tNilP)))) (tNextP)) (tAppP 2 (tTupP (tConsP (tVarP 3) (tConsP (tOpP rIxP (tVarP 4) (tConP (.int 1))) (tNilP)))))))) (tRetP (tCBP rLen (tConsP (tVarP 2) (tNilP)))))
def ts_is_plan (K : PySem.W.Frag) (CLine : Addr) : TSp := tSeqP (tDropP (tCallP (sp_check_line K CLine) [] (tConsP (tVarP 0) (tNilP)))) (tSeqP (tIfSP (tOrP (tNotP (tBlP (tCBP (rIsI K) (tConsP (tVarP 1) (tConsP (tConP (.raw (.ty "tuple"))) (tNilP)))))) (tBlP (tOpP (rEqI true) (tCBP rLen (tConsP (tVarP 1) (tNilP))) (tCBP rLen (tConsP (tPropP CLine (sp_Line_trips K CLine) (tVarP 0)) (tNilP)))))) (tRetP (tConP (.bl false))) (tNextP)) (tRetP (tOpP (rEqI false) (tCallP (sp_valid_pairs K CLine) [] (tConsP (tVarP 0) (tConsP (tVarP 1) (tNilP)))) (tCBP rLen (tConsP (tVarP 1) (tNilP))))))
section
variable {K : PySem.W.Frag} {C : Addr} {args : List PV} {P : PV → Prop} {PR : PV → Ow → Prop} {PF : List PV → Prop} {o : Ow}
theorem len_is_pair (h : sp_is_pair K C args P) : args.length = 1 := by
  obtain ⟨_, rfl, _⟩ := h; rfl
theorem len_is_seat (h : sp_is_seat K C args P) : args.length = 2 := by
  obtain ⟨_, _, rfl, _⟩ := h; rfl
theorem len_names_trip_and_seat (h : sp_names_trip_and_seat K C args P) : args.length = 2 := by
  obtain ⟨_, _, _, rfl, _⟩ := h; rfl
theorem len_seats_left (h : sp_seats_left K C args PF) : args.length = 3 := by
  obtain ⟨_, _, _, rfl, _⟩ := h; rfl
theorem len_plan_of (h : sp_plan_of K C o args PR) : args.length = 0 := by
  obtain ⟨_, _, rfl, _⟩ := h; rfl
theorem len_digits_of (h : sp_digits_of K C args P) : args.length = 2 := by
  obtain ⟨_, _, rfl, _⟩ := h; rfl
theorem len_numbered (h : sp_numbered K C args P) : args.length = 2 := by
  obtain ⟨_, _, _, rfl, _⟩ := h; rfl
theorem len_plan_at (h : sp_plan_at K C args P) : args.length = 2 := by
  obtain ⟨_, _, _, rfl, _⟩ := h; rfl
theorem len_valid_pairs (h : sp_valid_pairs K C args P) : args.length = 2 := by
  obtain ⟨_, _, _, rfl, _⟩ := h; rfl
theorem len_is_plan (h : sp_is_plan K C args P) : args.length = 2 := by
  obtain ⟨_, _, _, rfl, _⟩ := h; rfl
end
end Z
set_option Elab.async false
set_option linter.all false
set_option maxRecDepth 100000
namespace Z
open PySem PySem.Spec L2
open PyProof.Rows hiding St
/-! ### what is not in a list of ints -/
theorem flVs_ints : ∀ ns : List Int, flVs (ns.map .int) = some (ns.map V.int)
  | [] => rfl
  | w :: ws => by rw [List.map_cons, flVs, flVs_ints ws]; rfl
theorem inV_ints (x : Int) : ∀ ns : List Int, inV (.int x) (ns.map V.int) = decide (x ∈ ns)
  | [] => rfl
  | w :: ws => by
    have e : inV (.int x) ((w :: ws).map V.int) = (decide (x = w) || inV (.int x) (ws.map V.int)) := by
      show (List.any _ _) = _
      rw [List.map_cons, List.any_cons]
      congr 1
      by_cases h : x = w
      · subst h; simp [eqV]
      · have h' : w ≠ x := fun z => h z.symm
        simp [eqV, h, h']
    rw [e, inV_ints x ws]
    by_cases h : x = w <;> simp [h]
theorem q_notInI {x : Int} {ws : List Int} {Q : PV → Prop} (h : Q (.bl (!decide (x ∈ ws)))) : rInL true (.int x) (.lst (ws.map .int)) Q := ⟨_, _, _, rfl, rfl, flVs_ints ws, by rw [if_pos rfl, inV_ints]; exact h⟩
/-! ### lists of pairs -/
theorem toDs_pairs : ∀ ps : List Pair, toDs (ps.map pairS) = some (ps.map fun p => .tuple [.str p.1, .int p.2])
  | [] => rfl
  | p :: ps => by
    rw [List.map_cons, toDs, toDs_pairs ps]
    rfl
theorem alike_pairs (ps : List Pair) : PySem.W.AllAlike (ps.map fun p => PyData.tuple [.str p.1, .int p.2]) := fun d hd d' hd' => by
  obtain ⟨a, _, rfl⟩ := List.mem_map.mp hd
  obtain ⟨b, _, rfl⟩ := List.mem_map.mp hd'
  simp [PySem.W.alike, PySem.W.alikeAll]
theorem dlt_pairs {a b : Pair} (h : a.1 ≠ b.1) : PySem.W.dataLe false encD (pairS a) (pairS b) = true → a.1.cps.toList < b.1.cps.toList := by
  intro q
  have q' : (!PySem.W.dataLt (.tuple [.str b.1, .int b.2]) (.tuple [.str a.1, .int a.2])) = true := q
  rw [PySem.W.dataLt_tuple, PySem.W.dataLt_cons (by simp [PySem.W.alike])] at q'
  have hne : PyData.eqv (.str b.1) (.str a.1) = false := by
    simp only [PyData.eqv]
    exact beq_eq_false_iff_ne.mpr fun z => h z.symm
  rw [hne, if_neg Bool.false_ne_true, PySem.W.dataLt_str] at q'
  have nb : ¬ b.1.cps.toList < a.1.cps.toList := by simpa using q'
  have hl : a.1.cps.toList ≠ b.1.cps.toList := fun z => h (by
    have : a.1.cps = b.1.cps := Array.toList_inj.mp z
    cases ha : a.1; cases hb : b.1; rw [ha, hb] at this; simp at this; rw [this])
  exact Classical.byContradiction fun na => hl (List.le_antisymm (List.not_lt.mp nb) (List.not_lt.mp na))
theorem sort_pairs {ps0 : List Pair} (hn : (ps0.map (·.1)).Nodup) : ∃ ps : List Pair, (ps0.map pairS).mergeSort (PySem.W.dataLe false encD) = ps.map pairS ∧ ps.Perm ps0 ∧ AscP ps := by
  have T := PySem.W.sortLe_total (PyProof.Rows.listOrd PyProof.Rows.itemOrd) false fun b : PV => PySem.W.keyToks (encD b)
  refine ⟨ps0.mergeSort fun a b => PySem.W.dataLe false encD (pairS a) (pairS b), ?_, List.mergeSort_perm _ _, ?_⟩
  · exact (List.map_mergeSort (f := pairS) (r := fun a b => PySem.W.dataLe false encD (pairS a) (pairS b)) (s := PySem.W.dataLe false encD) (fun _ _ _ _ => rfl)).symm
  · have hp := List.mergeSort_perm ps0 fun a b => PySem.W.dataLe false encD (pairS a) (pairS b)
    have h1 : (ps0.mergeSort fun a b => PySem.W.dataLe false encD (pairS a) (pairS b)).Pairwise fun a b => PySem.W.dataLe false encD (pairS a) (pairS b) = true :=
      List.pairwise_mergeSort (le := fun a b => PySem.W.dataLe false encD (pairS a) (pairS b)) (fun a b c p q => T.trans (pairS a) (pairS b) (pairS c) p q) (fun a b => by
        rcases T.total (pairS a) (pairS b) with p | p
        · exact Bool.or_eq_true_iff.mpr (.inl p)
        · exact Bool.or_eq_true_iff.mpr (.inr p)) ps0
    have h2 : ((ps0.mergeSort fun a b => PySem.W.dataLe false encD (pairS a) (pairS b)).map (·.1)).Nodup := (hp.map _).nodup_iff.mpr hn
    have h3 := List.pairwise_map.mp h2
    exact (h1.and h3).imp fun p => dlt_pairs p.2 p.1
theorem q_sortP {ps0 : List Pair} {P : PV → Prop} (hn : (ps0.map (·.1)).Nodup) (hl : ps0.length ≤ 24) (h : ∀ ps : List Pair, ps.Perm ps0 → AscP ps → P (.lst (ps.map pairS))) : rSortD [.lst (ps0.map pairS)] P := by
  refine ⟨_, toDs_pairs ps0, alike_pairs ps0, .inl fun d hd => ?_, fun x hx => ?_, ?_, ?_⟩
  · obtain ⟨a, _, rfl⟩ := List.mem_map.mp hd
    exact ⟨_, _, rfl⟩
  · obtain ⟨a, _, rfl⟩ := List.mem_map.mp hx
    show (PyData.tuple [.str a.1, .int a.2]).depth ≤ 50
    simp [PyData.depth, PyData.depthAll]
  · have : 24 ≤ sizeLine := by decide
    rw [List.length_map]; omega
  · obtain ⟨ps, e, p, s⟩ := sort_pairs hn
    rw [e]; exact h ps p s
/-! ### digits -/
def remR (m : Int) (ks : List Int) : Int := ks.foldl (· / ·) m
theorem digR_snoc (k : Int) : ∀ (ks : List Int) (m : Int), digR m (ks ++ [k]) = digR m ks ++ [remR m ks % k]
  | [], m => rfl
  | x :: ks, m => by
    show m % x :: digR (m / x) (ks ++ [k]) = m % x :: digR (m / x) ks ++ [remR (m / x) ks % k]
    rw [digR_snoc k ks (m / x)]; rfl
theorem remR_snoc (m k : Int) (ks : List Int) : remR m (ks ++ [k]) = remR m ks / k := by
  unfold remR
  rw [List.foldl_append]; rfl
theorem digR_len : ∀ (ks : List Int) (m : Int), (digR m ks).length = ks.length
  | [], _ => rfl
  | _ :: ks, m => by
    show (digR _ ks).length + 1 = ks.length + 1
    rw [digR_len ks]
theorem digR_bound : ∀ (ks : List Int) (m : Int) (i : Nat) (d k : Int), (digR m ks)[i]? = some d → ks[i]? = some k → 1 ≤ k → 0 ≤ d ∧ d < k
  | [], _, i, _, _, h, _, _ => by simp [digR] at h
  | x :: ks, m, 0, d, k, h, h2, h3 => by
    have e1 : m % x = d := by simpa [digR] using h
    have e2 : x = k := by simpa using h2
    subst e2; subst e1
    exact ⟨Int.emod_nonneg _ (by omega), Int.emod_lt_of_pos _ (by omega)⟩
  | x :: ks, m, i + 1, d, k, h, h2, h3 => digR_bound ks (m / x) i d k (by simpa [digR] using h) (by simpa using h2) h3
theorem digits_len (m : Int) (ks : List Int) : (digitsL m ks).length = ks.length := by
  unfold digitsL
  rw [List.length_reverse, digR_len, List.length_reverse]
theorem digits_bound {m : Int} {ks : List Int} {i : Nat} {d k : Int} (h : (digitsL m ks)[i]? = some d) (h2 : ks[i]? = some k) (h3 : 1 ≤ k) : 0 ≤ d ∧ d < k := by
  have hi : i < ks.length := (List.getElem?_eq_some_iff.mp h2).1
  unfold digitsL at h
  rw [List.getElem?_reverse (by rw [digR_len, List.length_reverse]; exact hi), digR_len, List.length_reverse] at h
  refine digR_bound ks.reverse m (ks.length - 1 - i) d k h ?_ h3
  rw [List.getElem?_reverse (by omega), show ks.length - 1 - (ks.length - 1 - i) = i by omega]
  exact h2
/-! ### seats that are left -/
theorem upto_mem {n s : Int} : s ∈ upto n ↔ 1 ≤ s ∧ s ≤ n := by
  unfold upto
  rw [List.mem_map]
  constructor
  · rintro ⟨i, hi, rfl⟩
    have := List.mem_range.mp hi
    omega
  · rintro ⟨h1, h2⟩
    exact ⟨(s - 1).toNat, List.mem_range.mpr (by omega), by omega⟩
theorem upto_nodup (n : Int) : (upto n).Nodup := by
  unfold upto List.Nodup
  refine List.pairwise_map.mpr (List.nodup_range.imp fun {a b} h e => ?_)
  omega
theorem upto_len {n : Int} (h : 0 ≤ n) : ((upto n).length : Int) = n := by
  unfold upto
  rw [List.length_map, List.length_range]
  omega
theorem left_mem {n s : Int} {r : Trip} {sd : List Seat} : s ∈ leftL n r sd ↔ (1 ≤ s ∧ s ≤ n) ∧ s ∉ takenL r sd := by
  unfold leftL
  rw [List.mem_filter, upto_mem]
  simp
theorem drop1 (t : Int) (p : Int → Bool) : ∀ {l : List Int}, l.Nodup → (l.filter p).length ≤ (l.filter fun x => p x && !decide (x = t)).length + 1
  | [], _ => by simp
  | x :: l, h => by
    obtain ⟨h1, h2⟩ := List.nodup_cons.mp h
    have ih := drop1 t p h2
    by_cases e : x = t
    · have same : (l.filter fun y => p y && !decide (y = t)) = l.filter p := List.filter_congr fun y hy => by
        have : y ≠ t := fun z => h1 (by rw [e, ← z]; exact hy)
        simp [this]
      rw [List.filter_cons, List.filter_cons, same, e]
      cases p t <;> simp
    · rw [List.filter_cons, List.filter_cons]
      cases hp : p x with
      | true => simp only [hp, e, decide_false, Bool.not_false, Bool.and_true, if_true, List.length_cons]; omega
      | false => simpa [hp] using ih
theorem drops {l : List Int} (h : l.Nodup) : ∀ T : List Int, l.length ≤ (l.filter fun x => !decide (x ∈ T)).length + T.length
  | [] => by
    have : (l.filter fun x => !decide (x ∈ ([] : List Int))) = l := List.filter_eq_self.mpr fun x _ => by simp
    rw [this]; omega
  | t :: T => by
    have ih := drops h T
    have := drop1 t (fun x => !decide (x ∈ T)) h
    have e : (l.filter fun x => !decide (x ∈ t :: T)) = l.filter fun x => !decide (x ∈ T) && !decide (x = t) := List.filter_congr fun x _ => by
      by_cases a : x = t <;> by_cases b : x ∈ T <;> simp [a, b]
    rw [e, List.length_cons]
    omega
theorem left_len {n : Int} {r : Trip} {sd : List Seat} (h : 0 ≤ n) : n - ((sd.filter fun x => meetB r x.1).length : Int) ≤ ((leftL n r sd).length : Int) := by
  have h1 := drops (upto_nodup n) (takenL r sd)
  have h2 := upto_len h
  have h3 : (takenL r sd).length = (sd.filter fun x => meetB r x.1).length := by unfold takenL; rw [List.length_map]
  unfold leftL
  omega
theorem seatAll_snoc (n : Int) (r : Trip) (d : Int) : ∀ (q : List Trip) (ds : List Int) (sd : List Seat), q.length = ds.length → seatAll n (q ++ [r]) (ds ++ [d]) sd = seatAll n q ds sd ++ [(r, (leftL n r (seatAll n q ds sd)).getD d.toNat 0)]
  | [], [], sd, _ => rfl
  | x :: q, y :: ds, sd, h => seatAll_snoc n r d q ds _ (by simpa using h)
  | [], _ :: _, _, h => by simp at h
  | _ :: _, [], _, h => by simp at h
theorem seatAll_fst (n : Int) : ∀ (q : List Trip) (ds : List Int) (sd : List Seat), q.length = ds.length → (seatAll n q ds sd).map (·.1) = sd.map (·.1) ++ q
  | [], [], sd, _ => by simp [seatAll]
  | x :: q, y :: ds, sd, h => by
    have := seatAll_fst n q ds (sd ++ [(x, (leftL n x sd).getD y.toNat 0)]) (by simpa using h)
    show (seatAll n q ds _).map _ = _
    rw [this, List.map_append, List.append_assoc]; rfl
  | [], _ :: _, _, h => by simp at h
  | _ :: _, [], _, h => by simp at h
/-- earlier ones that meet have other seats -/
def GoodS (n : Int) (sd : List Seat) : Prop := (sd.Pairwise fun x y => meetB y.1 x.1 = true → x.2 ≠ y.2) ∧ ∀ x ∈ sd, 1 ≤ x.2 ∧ x.2 ≤ n
theorem good_snoc {n s : Int} {r : Trip} {sd : List Seat} (g : GoodS n sd) (h : s ∈ leftL n r sd) : GoodS n (sd ++ [(r, s)]) := by
  obtain ⟨h1, h2⟩ := left_mem.mp h
  refine ⟨List.pairwise_append.mpr ⟨g.1, List.pairwise_singleton _ _, fun x hx y hy => ?_⟩, fun x hx => ?_⟩
  · rw [List.mem_singleton.mp hy]
    intro hm e
    exact h2 (by unfold takenL; exact List.mem_map.mpr ⟨x, List.mem_filter.mpr ⟨hx, hm⟩, e⟩)
  · rcases List.mem_append.mp hx with z | z
    · exact g.2 x z
    · rw [List.mem_singleton.mp z]; exact h1
theorem sizes_get {n : Int} {q : List Trip} {i : Nat} (h : i < q.length) : (sizesI n q)[i]? = some (szAt n q i) := by
  unfold sizesI
  rw [List.getElem?_map, List.getElem?_range h]; rfl
theorem sizes_len (n : Int) (q : List Trip) : (sizesI n q).length = q.length := by
  unfold sizesI
  rw [List.length_map, List.length_range]
theorem seat_ix {n : Int} {q : List Trip} {ds : List Int} {i : Nat} {r : Trip} {d : Int} (n0 : 0 ≤ n) (hl : q.length = ds.length) (hr : q[i]? = some r) (hd : ds[i]? = some d) (d0 : 0 ≤ d) (d1 : d < szAt n q i) :
    d.toNat < (leftL n r (seatAll n (q.take i) (ds.take i) [])).length := by
  have h1 := left_len (r := r) (sd := seatAll n (q.take i) (ds.take i) []) n0
  have hf := seatAll_fst n (q.take i) (ds.take i) [] (by rw [List.length_take, List.length_take]; omega)
  have h2 : (((seatAll n (q.take i) (ds.take i) []).filter fun x => meetB r x.1).length : Int) = (((q.take i).filter (meetB r)).length : Int) := by
    have e : (((seatAll n (q.take i) (ds.take i) []).filter fun x => meetB r x.1).map (·.1)) = ((seatAll n (q.take i) (ds.take i) []).map (·.1)).filter (meetB r) := by
      rw [List.filter_map]; rfl
    rw [hf] at e
    have e2 := congrArg List.length e
    rw [List.length_map] at e2
    rw [e2]; rfl
  rw [szAt_eq hr] at d1
  omega
theorem seat_good {n : Int} {q : List Trip} {ds : List Int} (n0 : 0 ≤ n) (hl : q.length = ds.length) (hb : ∀ i d, ds[i]? = some d → 0 ≤ d ∧ d < szAt n q i) : ∀ i, i ≤ q.length → GoodS n (seatAll n (q.take i) (ds.take i) [])
  | 0, _ => by
    rw [List.take_zero, List.take_zero]
    exact ⟨.nil, fun _ z => by cases z⟩
  | i + 1, h => by
    have g := seat_good n0 hl hb i (by omega)
    have hr : q[i]? = some q[i] := List.getElem?_eq_getElem (by omega)
    have hd : ds[i]? = some ds[i] := List.getElem?_eq_getElem (by omega)
    obtain ⟨d0, d1⟩ := hb i _ hd
    have ix := seat_ix n0 hl hr hd d0 d1
    rw [List.take_succ, hr, List.take_succ, hd]
    rw [show (some q[i]).toList = [q[i]] from rfl, show (some ds[i]).toList = [ds[i]] from rfl, seatAll_snoc n _ _ _ _ _ (by rw [List.length_take, List.length_take]; omega)]
    refine good_snoc g ?_
    rw [List.getD_eq_getElem?_getD, List.getElem?_eq_getElem ix]
    exact List.getElem_mem ix
theorem getD_memS {α : Type} {l : List α} {i : Nat} {d : α} (h : i < l.length) : l.getD i d ∈ l := by
  rw [List.getD_eq_getElem?_getD, List.getElem?_eq_getElem h]
  exact List.getElem_mem h
theorem over_pos {n : Int} {rs : List Trip} (hw : Rw rs) (ho : overR n rs = none) : ∀ i, i < (queueT rs).length → 1 ≤ szAt n (queueT rs) i := fun i hil => by
  have hr : (queueT rs)[i]? = some (queueT rs)[i] := List.getElem?_eq_getElem hil
  generalize (queueT rs)[i] = r at hr
  rw [szAt_eq hr]
  have hm := List.mem_of_getElem? hr
  obtain ⟨_, _, rlt⟩ := hw.each r ((queue_perm rs).mem_iff.mp hm)
  have hno : ¬ n < loadN rs r.2.1 := by
    have := List.find?_eq_none.mp ho r hm
    simpa using this
  rw [load_queue] at hno
  obtain ⟨_, er⟩ := List.getElem?_eq_some_iff.mp hr
  have sp : queueT rs = (queueT rs).take i ++ r :: (queueT rs).drop (i + 1) := by rw [← er, List.getElem_cons_drop, List.take_append_drop]
  have up := queue_up rs
  rw [sp] at up
  have h3 : ∀ u ∈ (queueT rs).take i, meetB r u = true → passes r.2.1 u = true := fun u hu hmu => by
    have := (List.pairwise_append.mp up).2.2 u hu r List.mem_cons_self
    unfold meetB at hmu
    unfold passes
    rw [Bool.and_eq_true, decide_eq_true_iff, decide_eq_true_iff] at *
    exact ⟨this, hmu.1⟩
  have h4 : ((queueT rs).take i).countP (meetB r) ≤ ((queueT rs).take i).countP (passes r.2.1) := List.countP_mono_left h3
  rw [List.countP_eq_length_filter, List.countP_eq_length_filter] at h4
  have h5 : passes r.2.1 r = true := by
    unfold passes
    rw [decide_eq_true (Int.le_refl _), decide_eq_true rlt]; rfl
  have h6 : ((queueT rs).filter (passes r.2.1)).length = (((queueT rs).take i).filter (passes r.2.1)).length + (((queueT rs).drop (i + 1)).filter (passes r.2.1)).length + 1 := by
    conv => lhs; rw [sp, List.filter_append, List.filter_cons_of_pos h5, List.length_append, List.length_cons]
    omega
  omega
theorem digits_ok {n m : Int} {rs : List Trip} (hw : Rw rs) (ho : overR n rs = none) : ∀ i d, (digitsL m (sizesI n (queueT rs)))[i]? = some d → 0 ≤ d ∧ d < szAt n (queueT rs) i := fun i d h => by
  have hi : i < (queueT rs).length := by
    have := (List.getElem?_eq_some_iff.mp h).1
    rw [digits_len, sizes_len] at this
    exact this
  exact digits_bound h (sizes_get hi) (over_pos hw ho i hi)
section
variable {K : PySem.W.Frag} {C : Addr} {args : List PV} {P : PV → Prop} {PR : PV → Ow → Prop} {PF : List PV → Prop} {o : Ow}
theorem w_seqF {t : TSp} {u : TFp} {η : EP'} {Q : List PV → EP' → Prop} (h : t { nx := fun η' => u η' Q, rt := fun _ _ => False } η) : tSeqFP t u η Q := h
theorem w_lstS {te : TEp} {η : EP'} {Q : List PV → EP' → Prop} (h : te η fun x η1 => match x with | .lst xs => Q xs η1 | .scr ns => Q (ns.map .int) η1 | _ => False) : iListP te η Q := h
theorem w_gpS {a b : PV} {i j : Nat} {η : EP'} {R : EP' → Prop} (h : R ((η.set i (.va a)).set j (.va b))) : gTupP 2 (gConsP (gNameP i) (gConsP (gNameP j) (gNilP))) (.tup [a, b]) η R := ⟨rfl, rfl, h⟩
theorem w_rngS {te tb : TEp} {η : EP'} {Q : List PV → EP' → Prop} (h : te η fun x η1 => tb η1 fun y η2 => match x, y with
  | .int i, .int j => -(2 ^ 62) ≤ i ∧ i < 2 ^ 62 ∧ -(2 ^ 62) ≤ j ∧ j < 2 ^ 62 ∧ Q (rangeP i (j - i).toNat) η2
  | _, _ => False) : iRng2P te tb η Q := h
theorem w_rev {te : TEp} {η : EP'} {Q : List PV → EP' → Prop} (h : te η fun x η1 => match x with
  | .lst xs => Q xs.reverse η1
  | .tup xs => Q xs.reverse η1
  | _ => False) : iRevP te η Q := h
theorem w_revL {te : TEp} {η : EP'} {Q : PV → EP' → Prop} (h : te η fun x η1 => match x with
  | .lst xs => Q (.lst xs.reverse) η1
  | _ => False) : tRevLP te η Q := h
theorem w_zipT {t : TAp} {η : EP'} {Q : List PV → EP' → Prop} (h : t η fun zs η1 => match zs with
  | [.tup xs, .tup ys] => Q (zipP xs ys) η1
  | [.lst xs, .lst ys] => Q (zipP xs ys) η1
  | _ => False) : iZipP t η Q := h
theorem w_callFO {sp : SpF} {t : TAp} {i : Nat} {η : EP'} {Q : List PV → EP' → Prop} (h : t η fun args η1 => match η1[i]? with
  | some (.ow (.l xs)) => sp (args ++ [.lst xs]) fun ys => (∀ y ∈ ys, (flV y).isSome = true) ∧ Q ys η1
  | _ => False) : tCallFOP sp t i η Q := h
theorem w_zipW {n : Int} {rs : List Trip} {s j : Nat} {ys : List PV} {η : EP'} {Q : List PV → EP' → Prop} (e : η[s]? = some (.va (lineP C n rs))) (ej : η[j]? = some (.va (.lst ys))) (hl : rs.length ≤ 24) (hle : rs.length ≤ ys.length) (h : Q (zipP ((queueT rs).map rowP) ys) η) : iWalkZP C ("walk" : Str) ("queue" : Str) (tVarP s) j η Q := by
  refine w_var e ⟨_, (queueT rs).map rowP, ys, rfl, rfl, ?_, by rw [List.length_map, queue_len]; omega, ej, by rw [List.length_map, queue_len]; exact hle, h⟩
  show some (queueP rs) = _
  rw [queue_eq]
theorem flat_ints (ns : List Int) : ∀ y ∈ ns.map PV.int, (flV y).isSome = true := fun y hy => by
  obtain ⟨_, _, rfl⟩ := List.mem_map.mp hy
  rfl
theorem rd_is_pair (h : sp_is_pair K C args P) : ts_is_pair K C { nx := fun _ => P .non, rt := fun x _ => P x } (startP 1 args) := by
  obtain ⟨x, rfl, hk, hp⟩ := h
  have e : startP 1 [x] = [.va x] := rfl
  rw [e]
  refine w_ret (w_andV (w_cb (w_cons (w_var (x := x) rfl (w_cons (w_con (w_nil (isi_tuple hk ?_))))))))
  cases x with
  | tup xs => exact w_op (w_cb (w_cons (w_var (x := .tup xs) rfl (w_nil (q_lenT (w_con (q_eqN hp)))))))
  | _ => exact hp
theorem rd_is_seat (h : sp_is_seat K C args P) : ts_is_seat K C { nx := fun _ => P .non, rt := fun x _ => P x } (startP 2 args) := by
  obtain ⟨x, n, rfl, hk, hp⟩ := h
  have e : startP 2 [x, .int n] = [.va x, .va (.int n)] := rfl
  rw [e]
  refine w_ret (w_andV (w_call (w_cons (w_var (x := x) rfl (w_nil ⟨x, rfl, hk, ?_⟩)))))
  cases x with
  | int s =>
    refine w_chain (w_con (w_var (x := .int s) rfl (q_le ⟨_, rfl, ?_⟩)))
    replace hp : P (.bl (decide (1 ≤ s) && decide (s ≤ n))) := hp
    by_cases c : 1 ≤ s
    · rw [decide_eq_true c] at hp ⊢
      rw [Bool.true_and] at hp
      exact q_iteT (w_var (x := .int n) rfl (q_le hp))
    · rw [decide_eq_false c] at hp ⊢
      exact q_iteF hp
  | _ => exact hp
theorem named_has (rs : List Trip) {x : PV} (h : Kn K x) : isNon (namedP rs x) = some (!hasName rs x) := by
  cases x with
  | str w =>
    unfold namedP hasName
    dsimp only
    cases rs.find? fun r => decide (r.1 = w) <;> rfl
  | _ => rfl
theorem rd_names_trip_and_seat (h : sp_names_trip_and_seat K C args P) : ts_names_trip_and_seat K C { nx := fun _ => P .non, rt := fun x _ => P x } (startP 4 args) := by
  obtain ⟨n, rs, x, rfl, ⟨hk, hkp⟩, hp⟩ := h
  have e : startP 4 [lineP C n rs, x] = [.va (lineP C n rs), .va x, .no, .no] := rfl
  rw [e]
  refine w_seq (w_if (w_not (w_bl (w_call (w_cons (w_var (x := x) rfl (w_nil ⟨x, rfl, hk, ?_⟩)))))))
  cases hb : isPairB x with
  | false =>
    refine q_iteT (w_ret (w_con ?_))
    have : pairOkB n rs x = false := by
      unfold pairOkB
      split
      · exact absurd hb (by simp [isPairB])
      · rfl
    rw [this] at hp
    exact hp
  | true =>
    refine q_iteF (w_next ?_)
    obtain ⟨a, b, rfl⟩ : ∃ a b, x = .tup [a, b] := by
      cases x with
      | tup xs =>
        have hl : (xs.length : Int) = 2 := of_decide_eq_true hb
        match xs, hl with
        | [a, b], _ => exact ⟨a, b, rfl⟩
        | [], hl => simp at hl
        | [_], hl => simp at hl
        | _ :: _ :: _ :: _, hl => simp at hl; omega
      | _ => cases hb
    obtain ⟨ka, kb⟩ := hkp a b rfl
    dsimp only
    refine w_seq (w_asg (w_var (x := .tup [a, b]) rfl (w_gpS ?_)))
    simp only [List.set_cons_zero, List.set_cons_succ]
    refine w_ret (w_andV (w_op (w_call (w_cons (w_prop' (w_var (x := lineP C n rs) rfl ⟨⟨_, rfl⟩, n, rs, rfl, w_cons (w_var (x := a) rfl (w_nil ⟨rs, a, rfl, ka, w_con ⟨_, named_has rs ka, ?_⟩⟩))⟩))))))
    have hp' : P (.bl (hasName rs a && isSeatB n b)) := hp
    cases hn : hasName rs a with
    | false => rw [hn] at hp'; exact hp'
    | true =>
      rw [hn] at hp'
      exact w_call (w_cons (w_var (x := b) rfl (w_cons (w_prop' (w_var (x := lineP C n rs) rfl ⟨⟨_, rfl⟩, n, rs, rfl, w_nil ⟨b, n, rfl, kb, hp'⟩⟩)))))
theorem rd_seats_left (h : sp_seats_left K C args PF) : ts_seats_left K C (startP 6 args) (fun xs _ => PF xs) := by
  obtain ⟨n, r, sd, rfl, n0, n20, hl, hp⟩ := h
  have e : startP 6 [.int n, rowP r, .lst (sd.map seatP)] = [.va (.int n), .va (rowP r), .va (.lst (sd.map seatP)), .no, .no, .no] := rfl
  rw [e]
  have sz : 1000 < sizeLine := by decide
  refine w_seqF (w_set (w_val (w_lc (w_lstS (w_var (x := .lst (sd.map seatP)) rfl ?_)))))
  show ∃ Inv : Nat → List PV → EP' → Prop, _
  refine ⟨fun i acc η => acc = ((sd.take i).filter fun x => meetB r x.1).map (fun x => PV.int x.2) ∧ η = [.va (.int n), .va (rowP r), .va (.lst (sd.map seatP)), .no, .no, .no], ⟨rfl, rfl⟩, ?_, ?_⟩
  · rintro i x acc η hi ⟨rfl, rfl⟩
    rw [List.getElem?_map] at hi
    obtain ⟨u, hu, rfl⟩ := Option.map_eq_some_iff.mp hi
    refine w_gpS (w_bl (w_call (w_cons (w_var (x := rowP r) rfl (w_cons (w_var (x := rowP u.1) rfl (w_nil ⟨r, u.1, rfl, ?_⟩)))))))
    cases hm : meetB r u.1 with
    | true =>
      refine q_iteT (w_var (x := .int u.2) rfl ⟨by rw [List.length_map]; exact filt_len hl, ?_, rfl⟩)
      rw [take_filterT hu hm, List.map_append]
      rfl
    | false => exact q_iteF ⟨by rw [take_filterF hu hm], rfl⟩
  · rintro acc η ⟨rfl, rfl⟩
    rw [List.length_map, List.take_length]
    have et : ((sd.filter fun x => meetB r x.1).map (fun x => PV.int x.2)) = (takenL r sd).map .int := by unfold takenL; rw [List.map_map]; rfl
    rw [et]
    simp only [List.set_cons_zero, List.set_cons_succ]
    refine w_lc (w_rngS (w_con (w_op (w_var (x := .int n) rfl (w_con (q_add ?_))))))
    refine ⟨by decide, by decide, by omega, by omega, ?_⟩
    rw [show (n + 1 - 1).toNat = n.toNat by omega]
    refine ⟨fun i acc η => acc = (((upto n).take i).filter fun s => !decide (s ∈ takenL r sd)).map PV.int ∧ η = [.va (.int n), .va (rowP r), .va (.lst (sd.map seatP)), .va (.lst ((takenL r sd).map .int)), .no, .no], ⟨rfl, rfl⟩, ?_, ?_⟩
    · rintro i x acc η hi ⟨rfl, rfl⟩
      obtain ⟨hin, rfl⟩ := rangeP_get hi
      have hu : (upto n)[i]? = some (1 + (i : Int)) := by
        unfold upto
        rw [List.getElem?_map, List.getElem?_range hin]; rfl
      refine w_gname (w_bl (w_op (w_var (x := .int (1 + (i : Int))) rfl (w_var (x := .lst ((takenL r sd).map .int)) rfl (q_notInI ?_)))))
      cases hb : (!decide ((1 + (i : Int)) ∈ takenL r sd)) with
      | true =>
        refine q_iteT (w_var (x := .int (1 + (i : Int))) rfl ⟨?_, ?_, rfl⟩)
        · rw [List.length_map]
          have := List.length_filter_le (fun s => !decide (s ∈ takenL r sd)) ((upto n).take i)
          rw [List.length_take] at this
          omega
        · rw [take_filterT hu hb, List.map_append]
          rfl
      | false => exact q_iteF ⟨by rw [take_filterF hu hb], rfl⟩
    · rintro acc η ⟨rfl, rfl⟩
      rw [rangeP_len]
      have : (upto n).length = n.toNat := by unfold upto; rw [List.length_map, List.length_range]
      rw [← this, List.take_length]
      exact hp
theorem rd_plan_of (h : sp_plan_of K C o args PR) : ts_plan_of K C { nx := fun η' => ∃ o', η'[0]? = some (Sl.ow o') ∧ PR .non o', rt := fun x η' => ∃ o', η'[0]? = some (Sl.ow o') ∧ PR x o' } (startR 3 o args) := by
  obtain ⟨sd, rfl, rfl, hnd, hl, hp⟩ := h
  have e : startR 3 (.l (sd.map seatP)) [] = [.ow (.l (sd.map seatP)), .no, .no] := rfl
  rw [e]
  have sz : 1000 < sizeLine := by decide
  refine w_ret (w_cb (w_cons (w_cb (w_cons (w_val (w_lcO ⟨sd.map seatP, rfl, by decide, ?_⟩))))))
  refine ⟨fun j acc η => acc = ((sd.take j).map seatPair).map pairS ∧ η = [.ow (.l (sd.map seatP)), .no, .no], ⟨rfl, rfl⟩, fun k acc η h => by rw [h.2]; rfl, ?_, ?_⟩
  · rintro j x acc η hj ⟨rfl, rfl⟩
    rw [List.getElem?_map] at hj
    obtain ⟨u, hu, rfl⟩ := Option.map_eq_some_iff.mp hj
    refine w_gpS (w_yes (q_iteT ?_))
    refine w_tup (w_cons (w_op (w_var (x := rowP u.1) rfl (w_con (q_ixT (x := .str u.1.1) rfl (w_cons (w_var (x := .int u.2) rfl (w_nil ⟨sz2, ?_, ?_, rfl⟩))))))))
    · rw [List.length_map, List.length_map, List.length_take]; omega
    · rw [take_map hu, List.map_append]
      rfl
  · rintro acc η ⟨rfl, rfl⟩
    rw [List.length_map, List.take_length]
    refine w_nil (q_sortP ?_ (by rw [List.length_map]; exact hl) fun ps pp pa => w_nil (q_tupl ⟨_, rfl, hp ps pp pa⟩))
    rw [List.map_map]
    exact hnd
theorem rd_digits_of (h : sp_digits_of K C args P) : ts_digits_of K C { nx := fun _ => P .non, rt := fun x _ => P x } (startP 4 args) := by
  obtain ⟨m, ks, rfl, hb, hl, hp⟩ := h
  have e : startP 4 [.int m, .lst (ks.map .int)] = [.va (.int m), .va (.lst (ks.map .int)), .no, .no] := rfl
  rw [e]
  have sz : 1000 < sizeLine := by decide
  refine w_seq (w_setF (by decide) (w_lstF (w_nil ⟨by show 0 ≤ sizeLine; omega, by show 2 < 4; decide, ?_⟩)))
  simp only [List.set_cons_zero, List.set_cons_succ]
  refine w_seq (w_for (w_rev (w_var (x := .lst (ks.map .int)) rfl ?_)))
  show ∃ Inv : Nat → EP' → Prop, _
  rw [← List.map_reverse]
  refine ⟨fun i η => ∃ s3, η = [.va (.int (remR m (ks.reverse.take i))), .va (.lst (ks.map .int)), .ow (.l ((digR m (ks.reverse.take i)).map .int)), s3], ⟨_, rfl⟩, ?_, ?_⟩
  · rintro i x η hi ⟨s3, rfl⟩
    rw [List.getElem?_map] at hi
    obtain ⟨k, hk, rfl⟩ := Option.map_eq_some_iff.mp hi
    obtain ⟨k1, k2⟩ := hb k (List.mem_reverse.mp (List.mem_of_getElem? hk))
    have et : ks.reverse.take (i + 1) = ks.reverse.take i ++ [k] := by rw [List.take_succ, hk]; rfl
    refine w_gname ?_
    simp only [List.set_cons_zero, List.set_cons_succ]
    refine w_seq (w_app (xs := (digR m (ks.reverse.take i)).map .int) rfl (w_op (w_var (x := .int (remR m (ks.reverse.take i))) rfl (w_var (x := .int k) rfl (q_mod (by omega) (q_appM rfl ?_ ?_))))))
    · rw [List.length_map, digR_len, List.length_take, List.length_reverse]; omega
    simp only [List.set_cons_zero, List.set_cons_succ]
    refine w_set (w_op (w_var (x := .int (remR m (ks.reverse.take i))) rfl (w_var (x := .int k) rfl (q_div ⟨by omega, by omega⟩ ?_))))
    simp only [List.set_cons_zero, List.set_cons_succ]
    exact ⟨.va (.int k), by rw [et, digR_snoc, remR_snoc, List.map_append]; rfl⟩
  · rintro η ⟨s3, rfl⟩
    rw [List.length_map, List.take_length]
    dsimp only
    refine w_ret (w_revL (w_varO (o := .l ((digR m ks.reverse).map .int)) rfl ?_))
    show P (.lst ((digR m ks.reverse).map PV.int).reverse)
    rw [← List.map_reverse]
    exact hp
theorem rd_numbered (h : sp_numbered K C args P) : ts_numbered K C { nx := fun _ => P .non, rt := fun x _ => P x } (startP 7 args) := by
  obtain ⟨n, rs, m, rfl, n1, n2, hw, ho, hp⟩ := h
  have e : startP 7 [lineP C n rs, .int m] = [.va (lineP C n rs), .va (.int m), .no, .no, .no, .no, .no] := rfl
  rw [e]
  have sz : 1000 < sizeLine := by decide
  have hl := hw.len
  have ql := queue_len rs
  have sl := sizes_len n (queueT rs)
  have kb : ∀ k ∈ sizesI n (queueT rs), 1 ≤ k ∧ k ≤ 20 := fun k hk => by
    obtain ⟨i, hi, rfl⟩ := List.mem_iff_getElem.mp hk
    rw [sl] at hi
    have := sizes_get (n := n) hi
    rw [List.getElem?_eq_getElem (by rw [sl]; exact hi)] at this
    rw [Option.some.inj this]
    exact ⟨over_pos hw ho i hi, (szAt_bound n1 n2 (by omega)).2⟩
  refine w_seq (w_set (w_call (w_cons (w_var (x := .int m) rfl (w_cons (w_call (w_cons (w_var (x := lineP C n rs) rfl (w_nil ⟨n, rs, rfl, hl, w_nil ⟨m, sizesI n (queueT rs), rfl, kb, by omega, ?_⟩⟩)))))))))
  simp only [List.set_cons_zero, List.set_cons_succ]
  have dok := digits_ok (m := m) hw ho
  have dl : (digitsL m (sizesI n (queueT rs))).length = rs.length := by rw [digits_len, sl, ql]
  unfold seatsN at hp
  generalize digitsL m (sizesI n (queueT rs)) = ds at dok dl hp
  refine w_seq (w_setF (by decide) (w_lstF (w_nil ⟨by show 0 ≤ sizeLine; omega, by show 3 < 7; decide, ?_⟩)))
  simp only [List.set_cons_zero, List.set_cons_succ]
  refine w_seq (w_for (w_zipW (ys := ds.map .int) rfl rfl hl (by rw [List.length_map]; omega) ?_))
  refine ⟨fun i η => ∃ s4 s5 s6, η = [.va (lineP C n rs), .va (.int m), .va (.lst (ds.map .int)), .ow (.l ((seatAll n ((queueT rs).take i) (ds.take i) []).map seatP)), s4, s5, s6], ⟨_, _, _, rfl⟩, ?_, ?_⟩
  · rintro i x η hi ⟨s4, s5, s6, rfl⟩
    obtain ⟨y, z, hy, hz, rfl⟩ := zipP_get hi
    rw [List.getElem?_map] at hy hz
    obtain ⟨r, hr, rfl⟩ := Option.map_eq_some_iff.mp hy
    obtain ⟨d, hd, rfl⟩ := Option.map_eq_some_iff.mp hz
    obtain ⟨d0, d1⟩ := dok i d hd
    have hil : i < (queueT rs).length := (List.getElem?_eq_some_iff.mp hr).1
    have ix := seat_ix (n := n) (by omega) (by omega) hr hd d0 d1
    have fl : (seatAll n ((queueT rs).take i) (ds.take i) []).length = i := by
      have := congrArg List.length (seatAll_fst n ((queueT rs).take i) (ds.take i) [] (by rw [List.length_take, List.length_take]; omega))
      rw [List.length_map, List.length_append, List.length_take] at this
      simp at this
      omega
    have es : seatAll n ((queueT rs).take (i + 1)) (ds.take (i + 1)) [] = seatAll n ((queueT rs).take i) (ds.take i) [] ++ [(r, (leftL n r (seatAll n ((queueT rs).take i) (ds.take i) [])).getD d.toNat 0)] := by
      rw [List.take_succ, hr, List.take_succ, hd]
      exact seatAll_snoc n r d _ _ _ (by rw [List.length_take, List.length_take]; omega)
    generalize seatAll n ((queueT rs).take i) (ds.take i) [] = sd at ix fl es
    refine w_gpS ?_
    simp only [List.set_cons_zero, List.set_cons_succ]
    refine w_seq (w_set (w_val (w_callFO (w_cons (w_prop' (w_var (x := lineP C n rs) rfl ⟨⟨_, rfl⟩, n, rs, rfl, w_cons (w_var (x := rowP r) rfl (w_nil ?_))⟩))))))
    refine ⟨n, r, sd, rfl, by omega, n2, by omega, flat_ints _, ?_⟩
    simp only [List.set_cons_zero, List.set_cons_succ]
    refine w_app (xs := sd.map seatP) rfl (w_tup (w_cons (w_var (x := rowP r) rfl (w_cons (w_op (w_var (x := .lst ((leftL n r sd).map .int)) rfl (w_var (x := .int d) rfl (q_ix (at_map 0 d0 (by omega)) ?_))))))))
    refine w_nil ⟨sz2, q_appM rfl (by rw [List.length_map]; omega) ?_⟩
    simp only [List.set_cons_zero, List.set_cons_succ]
    exact ⟨.va (rowP r), .va (.int d), .va (.lst ((leftL n r sd).map .int)), by rw [es, List.map_append]; rfl⟩
  · rintro η ⟨s4, s5, s6, rfl⟩
    rw [zipP_len (by rw [List.length_map, List.length_map]; omega), List.length_map, List.take_length, show (queueT rs).length = ds.length by omega, List.take_length]
    dsimp only
    have hf := seatAll_fst n (queueT rs) ds [] (by omega)
    have hnd : ((seatAll n (queueT rs) ds []).map fun x => x.1.1).Nodup := by
      have e1 : ((seatAll n (queueT rs) ds []).map fun x => x.1.1) = (queueT rs).map (·.1) := by
        have := congrArg (List.map fun r : Trip => r.1) hf
        rw [List.map_map] at this
        exact this
      rw [e1]
      exact ((queue_perm rs).map _).nodup_iff.mpr (asc_nodup hw)
    have hsl : (seatAll n (queueT rs) ds []).length ≤ 24 := by
      have := congrArg List.length hf
      rw [List.length_map, List.length_append] at this
      simp at this
      omega
    exact w_ret (w_callR rfl (w_nil (q_callM rfl ⟨_, rfl, rfl, hnd, hsl, fun ps pp pa => hp ps pp pa⟩)))
theorem count_over {n m : Int} {rs : List Trip} (h0 : 0 ≤ m) (h : m < countI n rs) : overR n rs = none := by
  unfold countI at h
  cases ho : overR n rs with
  | none => rfl
  | some r => rw [ho] at h; dsimp only at h; omega
theorem rd_plan_at (h : sp_plan_at K C args P) : ts_plan_at K C { nx := fun _ => P .non, rt := fun x _ => P x } (startP 2 args) := by
  obtain ⟨n, rs, m, rfl, hC, n1, n2, hw, m0, m1, hp⟩ := h
  have e : startP 2 [lineP C n rs, .int m] = [.va (lineP C n rs), .va (.int m)] := rfl
  rw [e]
  refine w_seq (w_drop (w_call (w_cons (w_var (x := lineP C n rs) rfl (w_nil ⟨n, rs, rfl, hC, ?_⟩)))))
  dsimp only
  refine w_seq (w_if (w_or (w_not (w_bl (w_call (w_cons (w_var (x := .int m) rfl (w_nil ⟨.int m, rfl, .inl rfl, ?_⟩))))))))
  rw [show isInt (.int m) = true from rfl]
  refine q_iteF (w_not (w_bl (w_chain (w_con (w_var (x := .int m) rfl (q_le ⟨_, rfl, ?_⟩))))))
  rw [decide_eq_true m0]
  refine q_iteT (w_call (w_cons (w_var (x := lineP C n rs) rfl (w_nil ⟨n, rs, rfl, hC, n1, n2, hw, q_lt ?_⟩))))
  rw [decide_eq_true m1]
  refine q_iteF (w_next ?_)
  dsimp only
  exact w_ret (w_call (w_cons (w_var (x := lineP C n rs) rfl (w_cons (w_var (x := .int m) rfl (w_nil ⟨n, rs, m, rfl, n1, n2, hw, count_over m0 m1, hp⟩))))))
theorem find_name {rs : List Trip} {r : Trip} (h : r ∈ rs) : hasName rs (.str r.1) = true := by
  unfold hasName
  rw [List.find?_isSome]
  exact ⟨r, h, decide_eq_true rfl⟩
theorem rd_valid_pairs (h : sp_valid_pairs K C args P) : ts_valid_pairs K C { nx := fun _ => P .non, rt := fun x _ => P x } (startP 5 args) := by
  obtain ⟨n, rs, xs, rfl, n1, n2, hw, hk, hp⟩ := h
  have e : startP 5 [lineP C n rs, .tup xs] = [.va (lineP C n rs), .va (.tup xs), .no, .no, .no] := rfl
  rw [e]
  have sz : 1000 < sizeLine := by decide
  have hl := hw.len
  refine w_seq (w_setF (by decide) (w_lstF (w_nil ⟨by show 0 ≤ sizeLine; omega, by show 2 < 5; decide, ?_⟩)))
  simp only [List.set_cons_zero, List.set_cons_succ]
  refine w_seq (w_for (w_zipT (w_cons (w_prop' (w_var (x := lineP C n rs) rfl ⟨⟨_, rfl⟩, n, rs, rfl, w_cons (w_var (x := .tup xs) rfl (w_nil ?_))⟩)))))
  show ∃ Inv : Nat → EP' → Prop, _
  refine ⟨fun i η => ∃ (sd : List Seat) (s3 s4 : Sl), sd.length = i ∧ validGo n rs xs [] = validGo n (rs.drop i) (xs.drop i) sd ∧ η = [.va (lineP C n rs), .va (.tup xs), .ow (.l (sd.map seatP)), s3, s4], ⟨[], _, _, rfl, rfl, rfl⟩, ?_, ?_⟩
  · rintro i x η hi ⟨sd, s3, s4, sl, hv, rfl⟩
    obtain ⟨y, z, hy, hz, rfl⟩ := zipP_get hi
    rw [List.getElem?_map] at hy
    obtain ⟨r, hr, rfl⟩ := Option.map_eq_some_iff.mp hy
    have hil : i < rs.length := (List.getElem?_eq_some_iff.mp hr).1
    have hrm := List.mem_of_getElem? hr
    have hkz := hk z (List.mem_of_getElem? hz)
    have ed : rs.drop i = r :: rs.drop (i + 1) := by obtain ⟨h1, h2⟩ := List.getElem?_eq_some_iff.mp hr; rw [← h2, List.getElem_cons_drop]
    have ex : xs.drop i = z :: xs.drop (i + 1) := by obtain ⟨h1, h2⟩ := List.getElem?_eq_some_iff.mp hz; rw [← h2, List.getElem_cons_drop]
    have hv2 : validGo n rs xs [] = match seatV n r sd z with
      | some s => validGo n (rs.drop (i + 1)) (xs.drop (i + 1)) (sd ++ [(r, s)])
      | none => sd.length := by rw [hv, ed, ex]; rfl
    have out : seatV n r sd z = none → P (.int ((sd.map seatP).length : Int)) := fun h => by
      rw [h] at hv2
      rw [hv2] at hp
      rw [List.length_map]
      exact hp
    refine w_gpS ?_
    simp only [List.set_cons_zero, List.set_cons_succ]
    refine w_seq (w_if (w_or (w_not (w_bl (w_call (w_cons (w_var (x := lineP C n rs) rfl (w_cons (w_var (x := z) rfl (w_nil ⟨n, rs, z, rfl, hkz, ?_⟩))))))))))
    cases hpo : pairOkB n rs z with
    | false =>
      refine q_iteT (q_iteT (w_ret (w_cb (w_cons (w_varO (o := .l (sd.map seatP)) rfl (w_nil (q_len (out ?_))))))))
      unfold seatV
      split
      · rename_i w s
        split
        · rename_i hc
          obtain ⟨rfl, hs⟩ := hc
          obtain ⟨⟨s1, s2⟩, _⟩ := left_mem.mp hs
          have : pairOkB n rs (.tup [.str r.1, .int s]) = true := by
            show (hasName rs (.str r.1) && (decide (1 ≤ s) && decide (s ≤ n))) = true
            rw [find_name hrm, decide_eq_true s1, decide_eq_true s2]; rfl
          rw [this] at hpo; cases hpo
        · rfl
      · rfl
    | true =>
      obtain ⟨w, s, rfl⟩ : ∃ w s, z = .tup [.str w, .int s] := by
        unfold pairOkB at hpo
        split at hpo
        · rename_i a b
          obtain ⟨h1, h2⟩ := Bool.and_eq_true_iff.mp hpo
          cases a <;> (try cases h1)
          cases b <;> (try cases h2)
          exact ⟨_, _, rfl⟩
        · cases hpo
      refine q_iteF (w_bl (w_op (w_op (w_var (x := .tup [.str w, .int s]) rfl (w_con (q_ixT (x := .str w) rfl (w_op (w_var (x := rowP r) rfl (w_con (q_ixT (x := .str r.1) rfl (q_neI ?_)))))))))))
      refine q_cmp (fun ew => w_next ?_) fun ew => w_ret (w_cb (w_cons (w_varO (o := .l (sd.map seatP)) rfl (w_nil (q_len (out ?_))))))
      · subst ew
        dsimp only
        refine w_seq (w_if (w_bl (w_op (w_op (w_var (x := .tup [.str r.1, .int s]) rfl (w_con (q_ixT (x := .int s) rfl (w_val (w_callFO (w_cons (w_prop' (w_var (x := lineP C n rs) rfl ⟨⟨_, rfl⟩, n, rs, rfl, w_cons (w_var (x := rowP r) rfl (w_nil ?_))⟩))))))))))))
        refine ⟨n, r, sd, rfl, by omega, n2, by omega, flat_ints _, q_notInI ?_⟩
        refine q_cmp (fun hs => w_next ?_) fun hs => w_ret (w_cb (w_cons (w_varO (o := .l (sd.map seatP)) rfl (w_nil (q_len (out ?_))))))
        · dsimp only
          refine w_app (xs := sd.map seatP) rfl (w_tup (w_cons (w_var (x := rowP r) rfl (w_cons (w_op (w_var (x := .tup [.str r.1, .int s]) rfl (w_con (q_ixT (x := .int s) rfl ?_))))))))
          refine w_nil ⟨sz2, q_appM rfl (by rw [List.length_map]; omega) ?_⟩
          simp only [List.set_cons_zero, List.set_cons_succ]
          have hsv : seatV n r sd (.tup [.str r.1, .int s]) = some s := by
            show (if r.1 = r.1 ∧ s ∈ leftL n r sd then some s else none) = some s
            rw [if_pos ⟨rfl, hs⟩]
          rw [hsv] at hv2
          exact ⟨sd ++ [(r, s)], _, _, by rw [List.length_append, sl]; rfl, hv2, by rw [List.map_append]; rfl⟩
        · show (if r.1 = r.1 ∧ s ∈ leftL n r sd then some s else none) = none
          rw [if_neg fun z => hs z.2]
      · show (if w = r.1 ∧ s ∈ leftL n r sd then some s else none) = none
        rw [if_neg fun z => ew z.1]
  · rintro η ⟨sd, s3, s4, sl, hv, rfl⟩
    have hend : validGo n (rs.drop (zipP (rs.map rowP) xs).length) (xs.drop (zipP (rs.map rowP) xs).length) sd = sd.length := by
      unfold zipP
      rw [List.length_zipWith, List.length_map]
      by_cases c : rs.length ≤ xs.length
      · rw [Nat.min_eq_left c, List.drop_length]
        unfold validGo; rfl
      · rw [Nat.min_eq_right (by omega), List.drop_length]
        cases rs.drop xs.length <;> (unfold validGo; rfl)
    rw [hv, hend] at hp
    dsimp only
    refine w_ret (w_cb (w_cons (w_varO (o := .l (sd.map seatP)) rfl (w_nil (q_len ?_)))))
    rw [List.length_map]
    exact hp
theorem rd_is_plan (h : sp_is_plan K C args P) : ts_is_plan K C { nx := fun _ => P .non, rt := fun x _ => P x } (startP 2 args) := by
  obtain ⟨n, rs, x, rfl, hC, n1, n2, hw, hkx, hk, hp⟩ := h
  have e : startP 2 [lineP C n rs, x] = [.va (lineP C n rs), .va x] := rfl
  rw [e]
  refine w_seq (w_drop (w_call (w_cons (w_var (x := lineP C n rs) rfl (w_nil ⟨n, rs, rfl, hC, ?_⟩)))))
  dsimp only
  refine w_seq (w_if (w_or (w_not (w_bl (w_cb (w_cons (w_var (x := x) rfl (w_cons (w_con (w_nil (isi_tuple hkx ?_)))))))))))
  cases x with
  | tup xs =>
    refine q_iteF (w_bl (w_op (w_cb (w_cons (w_var (x := .tup xs) rfl (w_nil (q_lenT (w_cb (w_cons (w_prop' (w_var (x := lineP C n rs) rfl ⟨⟨_, rfl⟩, n, rs, rfl, w_nil (q_lenT ?_)⟩)))))))))))
    rw [List.length_map]
    have hp' : P (.bl (decide ((xs.length : Int) = (rs.length : Int)) && decide ((validGo n rs xs [] : Int) = (xs.length : Int)))) := hp
    refine q_neN (q_cmp (fun c => w_next ?_) fun c => w_ret (w_con ?_))
    · rw [decide_eq_true c, Bool.true_and] at hp'
      dsimp only
      exact w_ret (w_op (w_call (w_cons (w_var (x := lineP C n rs) rfl (w_cons (w_var (x := .tup xs) rfl (w_nil ⟨n, rs, xs, rfl, n1, n2, hw, hk xs rfl, w_cb (w_cons (w_var (x := .tup xs) rfl (w_nil (q_lenT (q_eqN hp')))))⟩)))))))
    · rw [decide_eq_false c, Bool.false_and] at hp'
      exact hp'
  | _ => exact q_iteT (q_iteT (w_ret (w_con hp)))
end
end Z
set_option Elab.async false
set_option linter.all false
set_option maxRecDepth 100000
namespace Z
open PySem PySem.Spec L2
open PyProof.Rows hiding St
/-! ### plans: what they are, cut down -/
theorem meet_commS (a b : Trip) : meetB a b = meetB b a := by
  unfold meetB
  rw [Bool.and_comm]
theorem name_inj {rs : List Trip} (hw : Rw rs) {a b : Trip} (ha : a ∈ rs) (hb : b ∈ rs) (e : a.1 = b.1) : a = b := by
  have h1 := named_in hw ha
  rw [e, named_in hw hb] at h1
  unfold rowP at h1
  injection h1 with h1
  injection h1 with h2 h3
  injection h3 with h3 h4
  injection h4 with h4 h5
  injection h2 with h2
  injection h3 with h3
  injection h4 with h4
  exact Prod.ext h2.symm (Prod.ext h3.symm h4.symm)
theorem perm_lift {α β : Type} (f : α → β) {l k : List β} (h : l.Perm k) : ∀ m : List α, m.map f = k → ∃ m' : List α, m'.Perm m ∧ m'.map f = l := by
  induction h with
  | nil => exact fun m e => ⟨m, .refl _, e⟩
  | cons x h ih =>
    intro m e
    cases m with
    | nil => cases e
    | cons a m =>
      rw [List.map_cons] at e
      injection e with e1 e2
      obtain ⟨m', p, q⟩ := ih m e2
      exact ⟨a :: m', p.cons a, by rw [List.map_cons, e1, q]⟩
  | swap x y l =>
    intro m e
    match m, e with
    | a :: b :: m, e =>
      rw [List.map_cons, List.map_cons] at e
      injection e with e1 e2
      injection e2 with e2 e3
      exact ⟨b :: a :: m, .swap a b m, by rw [List.map_cons, List.map_cons, e1, e2, e3]⟩
    | [], e => cases e
    | [_], e => rw [List.map_cons] at e; injection e with _ e; cases e
  | trans h1 h2 ih1 ih2 =>
    intro m e
    obtain ⟨m1, p1, q1⟩ := ih2 m e
    obtain ⟨m2, p2, q2⟩ := ih1 m1 q1
    exact ⟨m2, p2.trans p1, q2⟩
def PlanOk (n : Int) (rs : List Trip) (ps : List Pair) : Prop := ∃ sd : List Seat, sd.map (·.1) = rs ∧ sd.map seatPair = ps ∧ GoodS n sd
theorem good_perm {n : Int} {a b : List Seat} (p : a.Perm b) (g : GoodS n b) : GoodS n a :=
  ⟨(p.pairwise_iff fun {x y} h hm e => h (by rw [meet_commS]; exact hm) e.symm).mpr g.1, fun x hx => g.2 x (p.mem_iff.mp hx)⟩
theorem planok_of {n : Int} {rs : List Trip} {ps : List Pair} {sd0 : List Seat} (hw : Rw rs) (hf : (sd0.map (·.1)).Perm rs) (g : GoodS n sd0) (pp : ps.Perm (sd0.map seatPair)) (pa : AscP ps) : PlanOk n rs ps := by
  obtain ⟨sd, p, q⟩ := perm_lift seatPair pp sd0 rfl
  refine ⟨sd, perm_asc ((p.map _).trans hf) ?_ hw.asc, q, good_perm p g⟩
  rw [← q] at pa
  exact List.pairwise_map.mpr ((List.pairwise_map (f := seatPair) (R := fun a b : Pair => a.1.cps.toList < b.1.cps.toList)).mp pa)
theorem validGo_all {n : Int} : ∀ (sd sd0 : List Seat), GoodS n (sd0 ++ sd) → validGo n (sd.map (·.1)) ((sd.map seatPair).map pairS) sd0 = sd0.length + sd.length
  | [], sd0, _ => by simp [validGo]
  | (r, s) :: sd, sd0, g => by
    have hs : s ∈ leftL n r sd0 := by
      rw [left_mem]
      refine ⟨g.2 (r, s) (by simp), fun ht => ?_⟩
      unfold takenL at ht
      obtain ⟨x, hx, e⟩ := List.mem_map.mp ht
      obtain ⟨hx1, hx2⟩ := List.mem_filter.mp hx
      exact (List.pairwise_append.mp g.1).2.2 x hx1 (r, s) List.mem_cons_self hx2 e
    have hv : seatV n r sd0 (pairS (r.1, s)) = some s := by
      show (if r.1 = r.1 ∧ s ∈ leftL n r sd0 then some s else none) = some s
      rw [if_pos ⟨rfl, hs⟩]
    have ih := validGo_all sd (sd0 ++ [(r, s)]) (by rw [List.append_assoc]; exact g)
    show (match seatV n r sd0 (pairS (r.1, s)) with
      | some s => validGo n (sd.map fun x : Seat => x.1) ((sd.map seatPair).map pairS) (sd0 ++ [(r, s)])
      | none => sd0.length) = _
    rw [hv]
    dsimp only
    rw [ih]
    simp only [List.length_append, List.length_cons, List.length_nil]
    omega
theorem isPlan_true {n : Int} {rs : List Trip} {ps : List Pair} (h : PlanOk n rs ps) : isPlanB n rs (planV ps) = true := by
  obtain ⟨sd, rfl, rfl, g⟩ := h
  show (decide ((((sd.map seatPair).map pairS).length : Int) = ((sd.map (·.1)).length : Int)) && decide ((validGo n (sd.map (·.1)) ((sd.map seatPair).map pairS) [] : Int) = (((sd.map seatPair).map pairS).length : Int))) = true
  rw [validGo_all sd [] g]
  simp
theorem plan_less {n : Int} {rs : List Trip} {ps : List Pair} (w : Str) (h : PlanOk n rs ps) : PlanOk n (restR rs [w]) (ps.filter fun p => !decide (p.1 = w)) := by
  obtain ⟨sd, rfl, rfl, g⟩ := h
  refine ⟨sd.filter fun x => !decide (x.1.1 = w), ?_, ?_, g.1.sublist List.filter_sublist, fun x hx => g.2 x (List.mem_filter.mp hx).1⟩
  · unfold restR
    rw [List.filter_map]
    congr 1
    exact List.filter_congr fun x _ => by simp
  · rw [List.filter_map]
    rfl
theorem seatsN_ok {n m : Int} {rs : List Trip} (n1 : 1 ≤ n) (hw : Rw rs) (ho : overR n rs = none) : ((seatsN n rs m).map (·.1)).Perm rs ∧ GoodS n (seatsN n rs m) := by
  have dl : (queueT rs).length = (digitsL m (sizesI n (queueT rs))).length := by rw [digits_len, sizes_len]
  unfold seatsN
  constructor
  · rw [seatAll_fst n _ _ [] dl]
    exact queue_perm rs
  · have := seat_good (n := n) (by omega) dl (digits_ok hw ho) (queueT rs).length (Nat.le_refl _)
    rw [List.take_length, dl, List.take_length] at this
    exact this
theorem plan_num {n m : Int} {rs : List Trip} {ps : List Pair} (n1 : 1 ≤ n) (hw : Rw rs) (ho : overR n rs = none) (pp : ps.Perm ((seatsN n rs m).map seatPair)) (pa : AscP ps) : PlanOk n rs ps := by
  obtain ⟨h1, h2⟩ := seatsN_ok (m := m) n1 hw ho
  exact planok_of hw h1 h2 pp pa
/-! ### lines less a trip -/
theorem filter_one {ride : Trip} : ∀ {rs : List Trip}, (rs.map (·.1)).Nodup → ride ∈ rs → rs.filter (fun r => decide (r.1 = ride.1)) = [ride]
  | [], _, h => by cases h
  | r :: rs, hn, h => by
    rw [List.map_cons] at hn
    obtain ⟨h1, h2⟩ := List.nodup_cons.mp hn
    rcases List.mem_cons.mp h with rfl | h
    · rw [List.filter_cons, if_pos (decide_eq_true rfl)]
      congr 1
      exact List.filter_eq_nil_iff.mpr fun q hq => by
        have : q.1 ≠ ride.1 := fun e => h1 (by rw [← e]; exact List.mem_map.mpr ⟨q, hq, rfl⟩)
        simpa using this
    · have : r.1 ≠ ride.1 := fun e => h1 (by rw [e]; exact List.mem_map.mpr ⟨ride, h, rfl⟩)
      rw [List.filter_cons, if_neg (by simpa using this)]
      exact filter_one h2 h
theorem rest_perm {rs : List Trip} {ride : Trip} (hw : Rw rs) (h : ride ∈ rs) : (restR rs [ride.1] ++ [ride]).Perm rs := by
  have h1 := List.filter_append_perm (fun r : Trip => !decide (r.1 ∈ [ride.1])) rs
  have h2 : rs.filter (fun r => !(!decide (r.1 ∈ [ride.1]))) = [ride] := by
    rw [← filter_one (asc_nodup hw) h]
    exact List.filter_congr fun x _ => by simp
  rw [h2] at h1
  exact h1
theorem queue_uniq {rs us : List Trip} (hw : Rw rs) (p : us.Perm rs) (h : us.Pairwise fun a b => qLe a b = true) : us = queueT rs := by
  refine (p.trans (queue_perm rs).symm).eq_of_pairwise (le := fun a b : Trip => qLe a b = true) (fun a b ha hb h1 h2 => ?_) h (List.pairwise_mergeSort qLe_trans qLe_total rs)
  rw [qLe_eq, decide_eq_true_iff] at h1 h2
  have ha' := p.mem_iff.mp ha
  have hb' := (queue_perm rs).mem_iff.mp hb
  refine name_inj hw ha' hb' ?_
  rcases h1 with h1 | ⟨_, l1⟩ <;> rcases h2 with h2 | ⟨_, l2⟩
  · omega
  · omega
  · omega
  · have e := List.le_antisymm l1 l2
    have : a.1.cps = b.1.cps := Array.toList_inj.mp e
    cases ha1 : a.1; cases hb1 : b.1; rw [ha1, hb1] at this; simp at this; rw [this]
theorem queue_filter {rs : List Trip} (hw : Rw rs) (p : Trip → Bool) : queueT (rs.filter p) = (queueT rs).filter p :=
  (queue_uniq (rw_sub List.filter_sublist hw) ((queue_perm rs).filter p) ((List.pairwise_mergeSort qLe_trans qLe_total rs).sublist List.filter_sublist)).symm
/-! ### sizes, one behind the other -/
def szGo (n : Int) : List Trip → List Trip → List Int
  | _, [] => []
  | ea, r :: q => (n - ((ea.filter (meetB r)).length : Int)) :: szGo n (ea ++ [r]) q
theorem szGo_eq (n : Int) : ∀ (q ea : List Trip), (List.range q.length).map (fun i => szAt n (ea ++ q) (ea.length + i)) = szGo n ea q
  | [], _ => rfl
  | r :: q, ea => by
    rw [List.length_cons, List.range_succ_eq_map, List.map_cons, List.map_map]
    have ih := szGo_eq n q (ea ++ [r])
    have h0 : szAt n (ea ++ r :: q) (ea.length + 0) = n - ((ea.filter (meetB r)).length : Int) := by
      rw [szAt_eq (r := r) (by rw [Nat.add_zero, List.getElem?_append_right (Nat.le_refl _)]; simp), Nat.add_zero, List.take_left']
      rfl
    show _ = (n - ((ea.filter (meetB r)).length : Int)) :: szGo n (ea ++ [r]) q
    rw [h0, ← ih]
    congr 1
    refine List.map_congr_left fun i _ => ?_
    show szAt n (ea ++ r :: q) (ea.length + (i + 1)) = _
    rw [List.append_assoc, List.length_append]
    show szAt n (ea ++ r :: q) (ea.length + (i + 1)) = szAt n (ea ++ ([r] ++ q)) (ea.length + 1 + i)
    rw [show ea.length + (i + 1) = ea.length + 1 + i by omega]
    rfl
theorem sizes_go (n : Int) (q : List Trip) : sizesI n q = szGo n [] q := by
  rw [← szGo_eq n q []]
  unfold sizesI
  refine List.map_congr_left fun i _ => ?_
  show szAt n q i = szAt n ([] ++ q) (0 + i)
  rw [Nat.zero_add]; rfl
theorem szGo_append (n : Int) (B : List Trip) : ∀ (A ea : List Trip), szGo n ea (A ++ B) = szGo n ea A ++ szGo n (ea ++ A) B
  | [], ea => by rw [List.append_nil]; rfl
  | r :: A, ea => by
    show _ :: szGo n (ea ++ [r]) (A ++ B) = _ :: szGo n (ea ++ [r]) A ++ szGo n (ea ++ r :: A) B
    rw [szGo_append n B A (ea ++ [r]), List.append_assoc]; rfl
theorem foldl_mulI : ∀ (l : List Int) (a : Int), l.foldl (· * ·) a = a * prodI l
  | [], a => by unfold prodI; rw [List.foldl_nil, List.foldl_nil, Int.mul_one]
  | x :: l, a => by
    unfold prodI
    rw [List.foldl_cons, List.foldl_cons, foldl_mulI l (a * x), foldl_mulI l (1 * x), Int.one_mul, Int.mul_assoc]
theorem prodI_cons (x : Int) (l : List Int) : prodI (x :: l) = x * prodI l := by
  show List.foldl _ (1 * x) l = _
  rw [foldl_mulI, Int.one_mul]
theorem prodI_append (a b : List Int) : prodI (a ++ b) = prodI a * prodI b := by
  show List.foldl _ 1 (a ++ b) = _
  rw [List.foldl_append, foldl_mulI b]; rfl
theorem prodI_pos : ∀ {l : List Int}, (∀ x ∈ l, 1 ≤ x) → 1 ≤ prodI l
  | [], _ => by decide
  | x :: l, h => by
    have h1 := h x List.mem_cons_self
    have h2 := prodI_pos fun y hy => h y (List.mem_cons_of_mem _ hy)
    rw [prodI_cons]
    have := Int.mul_le_mul h1 h2 (by decide) (by omega)
    omega
theorem prodI_le : ∀ {l : List Int}, (∀ x ∈ l, 1 ≤ x ∧ x ≤ 20) → prodI l ≤ 20 ^ l.length
  | [], _ => by decide
  | x :: l, h => by
    have h1 := h x List.mem_cons_self
    have h2 := prodI_le fun y hy => h y (List.mem_cons_of_mem _ hy)
    have h3 := prodI_pos fun y hy => (h y (List.mem_cons_of_mem _ hy)).1
    rw [prodI_cons, List.length_cons, Int.pow_succ, Int.mul_comm]
    exact Int.mul_le_mul h2 h1.2 (by omega) (Int.le_of_lt (Int.pow_pos (by decide)))
theorem le_go (n : Int) : ∀ (B ea ea' : List Trip), ea'.Sublist ea → (∀ x ∈ szGo n ea B, 1 ≤ x) → prodI (szGo n ea B) ≤ prodI (szGo n ea' B) ∧ ∀ x ∈ szGo n ea' B, 1 ≤ x
  | [], _, _, _, _ => ⟨Int.le_refl _, fun _ z => by cases z⟩
  | r :: B, ea, ea', hs, h => by
    have hx : 1 ≤ n - ((ea.filter (meetB r)).length : Int) := h _ List.mem_cons_self
    have hl : (ea'.filter (meetB r)).length ≤ (ea.filter (meetB r)).length := (hs.filter _).length_le
    have hr : ∀ x ∈ szGo n (ea ++ [r]) B, 1 ≤ x := fun y hy => h y (List.mem_cons_of_mem _ hy)
    obtain ⟨i1, i2⟩ := le_go n B (ea ++ [r]) (ea' ++ [r]) (hs.append (.refl _)) hr
    have p1 := prodI_pos hr
    refine ⟨?_, fun y hy => ?_⟩
    · show prodI (_ :: szGo n (ea ++ [r]) B) ≤ prodI (_ :: szGo n (ea' ++ [r]) B)
      rw [prodI_cons, prodI_cons]
      exact Int.mul_le_mul (by omega) i1 (by omega) (by omega)
    · rcases List.mem_cons.mp hy with rfl | hy
      · omega
      · exact i2 y hy
theorem sizes_one {n : Int} {rs : List Trip} (hw : Rw rs) (ho : overR n rs = none) : ∀ x ∈ szGo n [] (queueT rs), 1 ≤ x := fun x hx => by
  rw [← sizes_go] at hx
  obtain ⟨i, hi, rfl⟩ := List.mem_iff_getElem.mp hx
  rw [sizes_len] at hi
  have := sizes_get (n := n) hi
  rw [List.getElem?_eq_getElem (by rw [sizes_len]; exact hi)] at this
  rw [Option.some.inj this]
  exact over_pos hw ho i hi
theorem load_sub {us rs : List Trip} (h : us.Sublist rs) (st : Int) : loadN us st ≤ loadN rs st := by
  unfold loadN
  exact Int.ofNat_le.mpr ((h.filter _).length_le)
theorem load_perm {us rs : List Trip} (h : us.Perm rs) (st : Int) : loadN us st = loadN rs st := by
  unfold loadN
  rw [(h.filter _).length_eq]
theorem over_sub {n : Int} {us rs : List Trip} (h : us.Sublist rs) (ho : overR n rs = none) : overR n us = none := by
  refine List.find?_eq_none.mpr fun r hr => ?_
  have h1 := List.find?_eq_none.mp ho r ((queue_perm rs).mem_iff.mpr (h.subset ((queue_perm us).mem_iff.mp hr)))
  have h2 := load_sub h r.2.1
  have h3 : ¬ n < loadN rs r.2.1 := by simpa using h1
  have h4 : ¬ n < loadN us r.2.1 := by omega
  simpa using h4
theorem count_none {n : Int} {rs : List Trip} (ho : overR n rs = none) : countI n rs = prodI (szGo n [] (queueT rs)) := by
  unfold countI
  rw [ho]
  dsimp only
  rw [sizes_go]
theorem count_some {n : Int} {rs : List Trip} {r : Trip} (ho : overR n rs = some r) : countI n rs = 0 := by
  unfold countI
  rw [ho]
theorem count_nonneg {n : Int} {rs : List Trip} (hw : Rw rs) : 0 ≤ countI n rs := by
  cases ho : overR n rs with
  | none =>
    rw [count_none ho]
    have := prodI_pos (sizes_one hw ho)
    omega
  | some r => rw [count_some ho]; exact Int.le_refl _
theorem count_bound {n : Int} {rs : List Trip} (n1 : 1 ≤ n) (n2 : n ≤ 20) (hw : Rw rs) : countI n rs < 10 ^ 40 := by
  cases ho : overR n rs with
  | none =>
    rw [count_none ho]
    have h1 := prodI_le (l := szGo n [] (queueT rs)) fun x hx => ⟨sizes_one hw ho x hx, by
      rw [← sizes_go] at hx
      obtain ⟨i, hi, rfl⟩ := List.mem_iff_getElem.mp hx
      rw [sizes_len] at hi
      have := sizes_get (n := n) hi
      rw [List.getElem?_eq_getElem (by rw [sizes_len]; exact hi)] at this
      rw [Option.some.inj this]
      have hl := hw.len
      have ql := queue_len rs
      exact (szAt_bound n1 n2 (by omega)).2⟩
    have hl : (szGo n [] (queueT rs)).length ≤ 24 := by
      rw [← sizes_go, sizes_len, queue_len]; exact hw.len
    have h2 : (20 : Int) ^ (szGo n [] (queueT rs)).length ≤ 20 ^ 24 := by
      have := Nat.pow_le_pow_right (show 0 < 20 by decide) hl
      exact_mod_cast this
    have h3 : (20 : Int) ^ 24 < 10 ^ 40 := by decide
    omega
  | some r => rw [count_some ho]; decide
/-- a trip less: at most as many times fewer plans as there are seats -/
theorem count_less {n : Int} {rs : List Trip} {ride : Trip} (n1 : 1 ≤ n) (hw : Rw rs) (h : ride ∈ rs) : countI n rs ≤ countI n (restR rs [ride.1]) * n := by
  have hwr : Rw (restR rs [ride.1]) := rw_rest _ hw
  cases ho : overR n rs with
  | some r =>
    rw [count_some ho]
    exact Int.mul_nonneg (count_nonneg hwr) (by omega)
  | none =>
    have hor : overR n (restR rs [ride.1]) = none := over_sub List.filter_sublist ho
    rw [count_none ho, count_none hor]
    have eq : queueT (restR rs [ride.1]) = (queueT rs).filter fun r => !decide (r.1 ∈ [ride.1]) := queue_filter hw _
    have hq : ride ∈ queueT rs := (queue_perm rs).mem_iff.mpr h
    obtain ⟨A, B, hAB⟩ := List.append_of_mem hq
    have hnd : ((queueT rs).map (·.1)).Nodup := ((queue_perm rs).map _).nodup_iff.mpr (asc_nodup hw)
    have h1 := sizes_one hw ho
    rw [eq]
    rw [hAB] at hnd h1 ⊢
    have hA : A.filter (fun r => !decide (r.1 ∈ [ride.1])) = A := List.filter_eq_self.mpr fun x hx => by
      rw [List.map_append, List.map_cons] at hnd
      have := (List.nodup_append.mp hnd).2.2 x.1 (List.mem_map.mpr ⟨x, hx, rfl⟩) ride.1 List.mem_cons_self
      simpa using this
    have hB : B.filter (fun r => !decide (r.1 ∈ [ride.1])) = B := List.filter_eq_self.mpr fun x hx => by
      rw [List.map_append, List.map_cons] at hnd
      have h2 := (List.nodup_cons.mp (List.nodup_append.mp hnd).2.1).1
      have : x.1 ≠ ride.1 := fun e => h2 (by rw [← e]; exact List.mem_map.mpr ⟨x, hx, rfl⟩)
      simpa using this
    rw [List.filter_append, List.filter_cons, hA, hB, if_neg (by simp)]
    rw [szGo_append, szGo_append, prodI_append, prodI_append]
    rw [szGo_append] at h1
    have e2 : szGo n ([] ++ A) (ride :: B) = (n - (((([] : List Trip) ++ A).filter (meetB ride)).length : Int)) :: szGo n ([] ++ A ++ [ride]) B := rfl
    rw [e2] at h1 ⊢
    rw [prodI_cons]
    have pA := prodI_pos fun x hx => h1 x (List.mem_append_left _ hx)
    have hr : 1 ≤ n - (((([] : List Trip) ++ A).filter (meetB ride)).length : Int) := h1 _ (List.mem_append_right _ List.mem_cons_self)
    have hBs : ∀ x ∈ szGo n ([] ++ A ++ [ride]) B, 1 ≤ x := fun x hx => h1 x (List.mem_append_right _ (List.mem_cons_of_mem _ hx))
    obtain ⟨l1, l2⟩ := le_go n B ([] ++ A ++ [ride]) ([] ++ A) (List.sublist_append_left _ _) hBs
    have pB := prodI_pos hBs
    rw [Int.mul_assoc]
    refine Int.mul_le_mul_of_nonneg_left ?_ (by omega)
    rw [Int.mul_comm (prodI (szGo n ([] ++ A) B)) n]
    exact Int.mul_le_mul (by omega) l1 (by omega) (by omega)
/-- a trip far behind all others -/
theorem count_far {n : Int} {rs us : List Trip} {f : Trip} (n1 : 1 ≤ n) (hw : Rw rs) (hu : Rw us) (p : us.Perm (rs ++ [f])) (hf : ∀ r ∈ rs, r.2.2 ≤ f.2.1) (f1 : f.2.1 < f.2.2) : countI n us = countI n rs * n := by
  have hlt : ∀ r ∈ rs, r.2.1 < f.2.1 := fun r hr => by
    obtain ⟨_, _, h⟩ := hw.each r hr
    have := hf r hr
    omega
  have eq : queueT us = queueT rs ++ [f] := by
    refine (queue_uniq hu (((queue_perm rs).append_right _).trans p.symm) ?_).symm
    refine List.pairwise_append.mpr ⟨List.pairwise_mergeSort qLe_trans qLe_total rs, List.pairwise_singleton _ _, fun a ha b hb => ?_⟩
    rw [List.mem_singleton.mp hb, qLe_eq]
    exact decide_eq_true (.inl (hlt a ((queue_perm rs).mem_iff.mp ha)))
  have ld : ∀ st, loadN us st = loadN rs st + if passes st f = true then 1 else 0 := fun st => by
    rw [load_perm p]
    unfold loadN
    rw [List.filter_append, List.length_append]
    cases hp : passes st f <;> simp [hp]
  have lr : ∀ r ∈ rs, loadN us r.2.1 = loadN rs r.2.1 := fun r hr => by
    rw [ld]
    have : passes r.2.1 f = false := by
      unfold passes
      rw [decide_eq_false (by have := hlt r hr; omega)]; rfl
    rw [this, if_neg Bool.false_ne_true]; omega
  cases ho : overR n rs with
  | none =>
    have hou : overR n us = none := by
      refine List.find?_eq_none.mpr fun r hr => ?_
      have : ¬ n < loadN us r.2.1 := by
        rw [eq] at hr
        rcases List.mem_append.mp hr with z | z
        · have z' := (queue_perm rs).mem_iff.mp z
          rw [lr r z']
          have := List.find?_eq_none.mp ho r z
          simpa using this
        · rw [List.mem_singleton.mp z, ld]
          have h0 : loadN rs f.2.1 = 0 := by
            unfold loadN
            have : rs.filter (passes f.2.1) = [] := List.filter_eq_nil_iff.mpr fun q hq => by
              unfold passes
              have := hf q hq
              rw [decide_eq_false (show ¬ f.2.1 < q.2.2 by omega), Bool.and_false]
              exact Bool.false_ne_true
            rw [this]; rfl
          rw [h0]
          split <;> omega
      simpa using this
    rw [count_none ho, count_none hou, eq, szGo_append, prodI_append]
    congr 1
    show prodI (szGo n ([] ++ queueT rs) [f]) = n
    have : (([] ++ queueT rs : List Trip).filter (meetB f)) = [] := List.filter_eq_nil_iff.mpr fun q hq => by
      have hq' := (queue_perm rs).mem_iff.mp hq
      have := hf q hq'
      unfold meetB
      rw [decide_eq_false (show ¬ f.2.1 < q.2.2 by omega), Bool.false_and]
      exact Bool.false_ne_true
    show prodI ((n - ((([] ++ queueT rs : List Trip).filter (meetB f)).length : Int)) :: []) = n
    rw [this, prodI_cons]
    show (n - 0) * 1 = n
    omega
  | some r =>
    rw [count_some ho, Int.zero_mul]
    have hr := List.mem_of_find?_eq_some ho
    have hr' := (queue_perm rs).mem_iff.mp hr
    have hn : n < loadN rs r.2.1 := by simpa using List.find?_some ho
    cases hou : overR n us with
    | some r' => exact count_some hou
    | none =>
      exfalso
      have := List.find?_eq_none.mp hou r (by rw [eq]; exact List.mem_append_left _ hr)
      rw [lr r hr'] at this
      simp at this
      omega
end Z
set_option Elab.async false
set_option linter.all false
set_option maxRecDepth 100000
namespace Z
open PySem PySem.Spec L2
open PyProof.Rows hiding St
/-! ### promises -/
def sp_law_less : PrP := fun K C args P => ∃ ps w, args = [planV ps, .str w] ∧ ps.length ≤ 24 ∧ P (planV (ps.filter fun p => !decide (p.1 = w)))
def sp_law_right : PrR := fun K C o args P => Pool o ∧ args = [] ∧ ClsT K C ∧ ∀ o', Pool o' → P (.bl true) o'
def sp_law : PrP := fun K C args P => ∃ ns : List Int, args = [.scr ns] ∧ ns.length ≤ 63 ∧ ClsT K C ∧ P (.bl true)
def ts_law_less (K : PySem.W.Frag) (CLine : Addr) : TSp := tRetP (tCBP rTuple (tConsP (tValP (tLcP (iTupP (tVarP 0)) (gNameP 2) (tBlP (tOpP (rEqI true) (tOpP rIxP (tVarP 2) (tConP (.int 0))) (tVarP 1))) (tVarP 2) [2])) (tNilP)))
def ts_law_right (K : PySem.W.Frag) (CLine : Addr) : TSp := tSeqP (tAsgP (tTupP (tConsP (tOpP rAdd (tConP (.int 1)) (tCallRP 0 (sp_law_draw K CLine) (tConsP (tConP (.int 6)) (tNilP)))) (tConsP (tCallRP 0 (sp_law_words K CLine) (tConsP (tOpP rAdd (tConP (.int 2)) (tCallRP 0 (sp_law_draw K CLine) (tConsP (tConP (.int 11)) (tNilP)))) (tNilP))) (tNilP)))) (gTupP 2 (gConsP (gNameP 1) (gConsP (gNameP 2) (gNilP))))) (tSeqP (tSetP 3 (tCallRP 0 (sp_law_rides K CLine) (tConsP (tVarP 2) (tConsP (tConP (.int 30)) (tNilP))))) (tSeqP (tParP [4, 5] (tConsV (tNewP CLine (sp_Line_init K CLine) [] (tConsP (tVarP 1) (tConsP (tVarP 3) (tNilP)))) (tConsV (tCallP (sp_count K CLine) [] (tConsP (tNewP CLine (sp_Line_init K CLine) [] (tConsP (tVarP 1) (tConsP (tVarP 3) (tNilP)))) (tNilP))) (tNilAr)))) (tSeqP (tForP (iRng1P (tConP (.int 4))) (gNameP 6) (tSeqP (tParP [7, 8] (tConsV (tOpP rIxP (tVarP 3) (tCallRP 0 (sp_law_draw K CLine) (tConsP (tCBP rLen (tConsP (tVarP 3) (tNilP))) (tNilP)))) (tConsV (tOpP rIxP (tVarP 3) (tCallRP 0 (sp_law_draw K CLine) (tConsP (tCBP rLen (tConsP (tVarP 3) (tNilP))) (tNilP)))) (tNilAr)))) (tSeqP (tSetP 9 (tMethVP CLine ("without" : Str) (sp_Line_without K CLine) (tVarP 4) (tConsP (tOpP rIxP (tVarP 7) (tConP (.int 0))) (tNilP)))) (tSeqP (tIfSP (tOrP (tBlP (tEqOP K CLine (sp_Line_eq K CLine) true (tMethP CLine ("added" : Str) (sp_Line_added K CLine) [] (tVarP 9) (tConsP (tOpP rIxP (tVarP 7) (tConP (.int 0))) (tConsP (tOpP rIxP (tVarP 7) (tConP (.int 1))) (tConsP (tOpP rIxP (tVarP 7) (tConP (.int 2))) (tNilP))))) (tVarP 4))) (tBlP (tOpP (rEqI true) (tLenOP CLine (sp_Line_len K CLine) (tConsP (tVarP 9) (tNilP))) (tOpP rSub (tLenOP CLine (sp_Line_len K CLine) (tConsP (tVarP 4) (tNilP))) (tConP (.int 1)))))) (tRetP (tConP (.bl false))) (tNextP)) (tSeqP (tIfSP (tOrP (tBlP (tEqOP K CLine (sp_Line_eq K CLine) true (tMethVP CLine ("without" : Str) (sp_Line_without K CLine) (tVarP 9) (tNilP)) (tMethVP CLine ("without" : Str) (sp_Line_without K CLine) (tVarP 4) (tConsP (tOpP rIxP (tVarP 7) (tConP (.int 0))) (tConsP (tOpP rIxP (tVarP 7) (tConP (.int 0))) (tNilP)))))) (tBlP (tOpP rGt (tCallP (sp_count K CLine) [] (tConsP (tVarP 4) (tNilP))) (tOpP rMulA (tCallP (sp_count K CLine) [] (tConsP (tVarP 9) (tNilP))) (tVarP 1))))) (tRetP (tConP (.bl false))) (tNextP)) (tSeqP (tIfSP (tBlP (tOpP rGt (tVarP 5) (tConP (.int 0)))) (tSeqP (tSetP 10 (tCallP (sp_plan_at K CLine) [] (tConsP (tVarP 4) (tConsP (tCallRP 0 (sp_law_draw K CLine) (tConsP (tVarP 5) (tNilP))) (tNilP))))) (tIfSP (tOrP (tBlP (tOpP (rIsT true) (tCallP (sp_is_plan K CLine) [] (tConsP (tVarP 9) (tConsP (tCallP (sp_law_less K CLine) [] (tConsP (tVarP 10) (tConsP (tOpP rIxP (tVarP 7) (tConP (.int 0))) (tNilP)))) (tNilP)))) (tConP (.bl true)))) (tBlP (tOpP (rIsT true) (tCallP (sp_is_plan K CLine) [] (tConsP (tVarP 4) (tConsP (tVarP 10) (tNilP)))) (tConP (.bl true))))) (tRetP (tConP (.bl false))) (tNextP))) (tNextP)) (tSeqP (tSetP 11 (tMethVP CLine ("without" : Str) (sp_Line_without K CLine) (tVarP 4) (tConsP (tOpP rIxP (tVarP 7) (tConP (.int 0))) (tConsP (tOpP rIxP (tVarP 8) (tConP (.int 0))) (tNilP))))) (tIfSP (tAndP (tBlP (tOpP (rEqP true) (tVarP 7) (tVarP 8))) (tBlP (tEqOP K CLine (sp_Line_eq K CLine) true (tVarP 11) (tMethVP CLine ("without" : Str) (sp_Line_without K CLine) (tMethVP CLine ("without" : Str) (sp_Line_without K CLine) (tVarP 4) (tConsP (tOpP rIxP (tVarP 8) (tConP (.int 0))) (tNilP))) (tConsP (tOpP rIxP (tVarP 7) (tConP (.int 0))) (tNilP)))))) (tRetP (tConP (.bl false))) (tNextP))))))))) (tSeqP (tSetP 12 (tValP (tLcP (iStrP (tConP (.str ("abcdefghijklmnopqrstuvwxyz" : Str)))) (gNameP 14) (tYesP) (tOpP rAdd (tConP (.str ("q" : Str))) (tVarP 14)) [14]))) (tSeqP (tSetP 13 (tOpP rIxP (tValP (tLcP (iListP (tVarP 12)) (gNameP 15) (tBlP (tOpP (rInL true) (tVarP 15) (tVarP 2))) (tVarP 15) [15])) (tConP (.int 0)))) (tRetP (tOpP (rEqI false) (tCallP (sp_count K CLine) [] (tConsP (tMethP CLine ("added" : Str) (sp_Line_added K CLine) [] (tVarP 4) (tConsP (tVarP 13) (tConsP (tOpP rPow (tConP (.int 10)) (tConP (.int 40))) (tConsP (tOpP rAdd (tOpP rPow (tConP (.int 10)) (tConP (.int 40))) (tConP (.int 5))) (tNilP))))) (tNilP))) (tOpP rMulA (tVarP 5) (tVarP 1)))))))))
def ts_law (K : PySem.W.Frag) (CLine : Addr) : TSp := tRetP (tCBP rAllP (tConsP (tValP (tLcP (iRng1P (tCBP rMax2 (tConsP (tConP (.int 2)) (tConsP (tCBP rMin2 (tConsP (tCBP rLen (tConsP (tVarP 0) (tNilP))) (tConsP (tConP (.int 4)) (tNilP)))) (tNilP))))) (gNameP 1) (tYesP) (tCallRFP (tCallFP (sp_law_pool K CLine) (tConsP (tCallP (sp_law_cell K CLine) [] (tConsP (tVarP 0) (tConsP (tVarP 1) (tNilP)))) (tNilP))) (sp_law_right K CLine) (tNilP)) [1])) (tNilP)))
section
variable {K : PySem.W.Frag} {C : Addr} {args : List PV} {P : PV → Prop} {PR : PV → Ow → Prop} {o : Ow}
theorem len_law_less (h : sp_law_less K C args P) : args.length = 2 := by
  obtain ⟨_, _, rfl, _⟩ := h; rfl
theorem len_law_right (h : sp_law_right K C o args PR) : args.length = 0 := by
  obtain ⟨_, rfl, _⟩ := h; rfl
theorem len_law (h : sp_law K C args P) : args.length = 1 := by
  obtain ⟨_, rfl, _⟩ := h; rfl
end
end Z
set_option Elab.async false
set_option linter.all false
set_option maxRecDepth 100000
namespace Z
open PySem PySem.Spec L2
open PyProof.Rows hiding St
def abcS : Str := ("abcdefghijklmnopqrstuvwxyz" : Str)
def qnames : List Str := abcS.cps.toList.map fun c => (("q" : String) : Str) ++ ⟨#[c]⟩
theorem qnames_ok : ∀ w ∈ qnames, isNm (.str w) = true := by decide +kernel
theorem qnames_nd : qnames.Nodup := by decide +kernel
theorem qnames_len : qnames.length = 26 := by decide +kernel
theorem drop1S (t : Str) (p : Str → Bool) : ∀ {l : List Str}, l.Nodup → (l.filter p).length ≤ (l.filter fun x => p x && !decide (x = t)).length + 1
  | [], _ => by simp
  | x :: l, h => by
    obtain ⟨h1, h2⟩ := List.nodup_cons.mp h
    have ih := drop1S t p h2
    by_cases e : x = t
    · have same : (l.filter fun y => p y && !decide (y = t)) = l.filter p := List.filter_congr fun y hy => by
        have : y ≠ t := fun z => h1 (by rw [e, ← z]; exact hy)
        simp [this]
      rw [List.filter_cons, List.filter_cons, same, e]
      cases p t <;> simp
    · rw [List.filter_cons, List.filter_cons]
      cases hp : p x with
      | true => simp only [hp, e, decide_false, Bool.not_false, Bool.and_true, if_true, List.length_cons]; omega
      | false => simpa [hp] using ih
theorem dropsS {l : List Str} (h : l.Nodup) : ∀ T : List Str, l.length ≤ (l.filter fun x => !decide (x ∈ T)).length + T.length
  | [] => by
    have : (l.filter fun x => !decide (x ∈ ([] : List Str))) = l := List.filter_eq_self.mpr fun x _ => by simp
    rw [this]; omega
  | t :: T => by
    have ih := dropsS h T
    have := drop1S t (fun x => !decide (x ∈ T)) h
    have e : (l.filter fun x => !decide (x ∈ t :: T)) = l.filter fun x => !decide (x ∈ T) && !decide (x = t) := List.filter_congr fun x _ => by
      by_cases a : x = t <;> by_cases b : x ∈ T <;> simp [a, b]
    rw [e, List.length_cons]
    omega
section
variable {K : PySem.W.Frag} {C : Addr} {args : List PV} {P : PV → Prop} {PR : PV → Ow → Prop} {o : Ow}
theorem q_neRowS {r u : Trip} {P : PV → Prop} (hr : GoodR r) (hu : GoodR u) (h : P (.bl (!decide (r = u)))) : rEqP true (rowP r) (rowP u) P := by
  have sh : ∀ {r : Trip}, GoodR r → SeqAt.shaped (rowE r) = true := fun {r} g => by
    unfold SeqAt.shaped
    rw [canLay_row g, Bool.true_and]
    exact decide_eq_true (by unfold rowE; simp [PyData.depth, PyData.depthAll])
  exact ⟨_, _, toD_row r, toD_row u, sh hr, sh hu, by rw [if_pos rfl, eqv_row]; exact h⟩
theorem knP_pair (p : Pair) : KnP K (pairS p) := ⟨.inl rfl, fun a b e => by cases e; exact ⟨.inl rfl, .inl rfl⟩⟩
theorem knP_plan (ps : List Pair) : ∀ xs, planV ps = .tup xs → ∀ y ∈ xs, KnP K y := fun xs e y hy => by
  unfold planV at e
  injection e with e
  rw [← e] at hy
  obtain ⟨p, _, rfl⟩ := List.mem_map.mp hy
  exact knP_pair p
theorem rd_law_less (h : sp_law_less K C args P) : ts_law_less K C { nx := fun _ => P .non, rt := fun x _ => P x } (startP 3 args) := by
  obtain ⟨ps, w, rfl, hl, hp⟩ := h
  have e : startP 3 [planV ps, .str w] = [.va (planV ps), .va (.str w), .no] := rfl
  rw [e]
  refine w_ret (w_cb (w_cons (w_val (w_lc (w_itup (w_var (x := planV ps) rfl ?_))))))
  show ∃ Inv : Nat → List PV → EP' → Prop, _
  refine ⟨fun i acc η => acc = ((ps.take i).filter fun p => !decide (p.1 = w)).map pairS ∧ η = [.va (planV ps), .va (.str w), .no], ⟨rfl, rfl⟩, ?_, ?_⟩
  · rintro i x acc η hi ⟨rfl, rfl⟩
    rw [List.getElem?_map] at hi
    obtain ⟨p, hpp, rfl⟩ := Option.map_eq_some_iff.mp hi
    refine w_gname (w_bl (w_op (w_op (w_var (x := pairS p) rfl (w_con (q_ixT (x := .str p.1) rfl (w_var (x := .str w) rfl (q_neI ?_))))))))
    cases hb : (!decide (p.1 = w)) with
    | true =>
      refine q_iteT (w_var (x := pairS p) rfl ⟨by rw [List.length_map]; exact filt_len hl, ?_, rfl⟩)
      rw [take_filterT hpp hb, List.map_append]
      rfl
    | false => exact q_iteF ⟨by rw [take_filterF hpp hb], rfl⟩
  · rintro acc η ⟨rfl, rfl⟩
    rw [List.length_map, List.take_length]
    exact w_nil (q_tupl hp)
theorem rd_law_right (h : sp_law_right K C o args PR) : ts_law_right K C { nx := fun η' => ∃ o', η'[0]? = some (Sl.ow o') ∧ PR .non o', rt := fun x η' => ∃ o', η'[0]? = some (Sl.ow o') ∧ PR x o' } (startR 16 o args) := by
  obtain ⟨po, rfl, hC, hp⟩ := h
  have e : startR 16 o [] = [.ow o, .no, .no, .no, .no, .no, .no, .no, .no, .no, .no, .no, .no, .no, .no, .no] := rfl
  rw [e]
  have sz : 1000 < sizeLine := by decide
  refine w_seq (w_asg (w_tup (w_cons (w_op (w_con (q_draw rfl rfl po (by decide) (by decide) fun o1 wd p1 w0 w1 => q_add ?_))))))
  refine w_cons (w_callR rfl (w_cons (w_op (w_con (q_draw rfl rfl p1 (by decide) (by decide) fun o2 k p2 k0 k1 => q_add ?_)))))
  refine w_nil (q_callM rfl ⟨2 + k, p2, rfl, by omega, by omega, fun o3 ws p3 wl wn => w_nil ⟨sz2, ?_⟩⟩)
  refine w_gpS ?_
  simp only [List.set_cons_zero, List.set_cons_succ]
  have n1 : 1 ≤ 1 + wd := by omega
  have n6 : 1 + wd ≤ 6 := by omega
  generalize 1 + wd = n at n1 n6 ⊢
  have n2 : n ≤ 20 := by omega
  have wl2 : 2 ≤ ws.length ∧ ws.length ≤ 12 := by omega
  refine w_seq (w_set (w_callR rfl (w_cons (w_var (x := .lst (ws.map .str)) rfl (w_cons (w_con (w_nil (q_callM rfl ⟨ws, 30, p3, rfl, wn, by omega, by decide, by decide, fun o4 rs p4 hw hrl hb => ?_⟩))))))))
  simp only [List.set_cons_zero, List.set_cons_succ]
  have hl := hw.len
  have hg := rw_good hw
  have hn : Near rs := fun r hr => by
    have := (hb r hr).2
    have h4 : (10 : Int) ^ 40 ≤ 10 ^ 60 := by decide
    omega
  refine w_seq (w_par (w_arV (w_new' (w_cons (w_var (x := .int n) rfl (w_cons (w_var (x := rowsP rs) rfl (w_nil ⟨n, rs, rfl, rfl, n1, n2, hw, rfl, _, rfl, ?_⟩))))))))
  refine w_arV (w_call (w_cons (w_new' (w_cons (w_var (x := .int n) rfl (w_cons (w_var (x := rowsP rs) rfl (w_nil ⟨n, rs, rfl, rfl, n1, n2, hw, rfl, _, rfl, ?_⟩))))))))
  refine w_nil ⟨n, rs, rfl, hC, n1, n2, hw, w_arN ⟨rfl, trivial, ?_⟩⟩
  simp only [storesP, List.set_cons_zero, List.set_cons_succ]
  have cn0 := count_nonneg (n := n) hw
  have cn1 := count_bound n1 n2 hw
  obtain ⟨cc, hcc⟩ : ∃ cc, cc = countI n rs := ⟨_, rfl⟩
  rw [← hcc] at cn0 cn1 ⊢
  have rl2 : 2 ≤ rs.length := by omega
  have draw : ∀ {o1 : Ow} {η : EP'} {Q : PV → EP' → Prop}, Pool o1 → η[0]? = some (.ow o1) → η[3]? = some (.va (rowsP rs)) → (∀ o2 r, Pool o2 → r ∈ rs → Q (rowP r) (η.set 0 (.ow o2))) → tOpP rIxP (tVarP 3) (tCallRP 0 (sp_law_draw K C) (tConsP (tCBP rLen (tConsP (tVarP 3) (tNilP))) (tNilP))) η Q := by
    intro o1 η Q p1 e0 e2 q
    refine w_op (w_var e2 (w_callR e0 (w_cons (w_cb (w_cons (w_var e2 (w_nil (q_lenT ?_))))))))
    rw [List.length_map]
    have hb40 : (24 : Int) < 10 ^ 40 := by decide
    refine w_nil (q_callM e0 ⟨(rs.length : Int), p1, rfl, by omega, by omega, fun o2 k p2 k0 k1 => ?_⟩)
    have hk : k.toNat < rs.length := by omega
    obtain ⟨v, h1, h2⟩ := atI_in (xs := rs.map rowP) k0 (by rw [List.length_map]; exact k1)
    rw [List.getElem?_map, List.getElem?_eq_getElem hk] at h2
    obtain rfl := Option.some.inj h2
    exact q_ixT h1 (q o2 _ p2 (List.getElem_mem hk))
  refine w_seq (w_for (w_rng1 (w_con ?_)))
  refine ⟨by decide, by decide, fun i η => ∃ o5 s6 s7 s8 s9 s10 s11, Pool o5 ∧ η = [.ow o5, .va (.int n), .va (.lst (ws.map .str)), .va (rowsP rs), .va (lineP C n rs), .va (.int cc), s6, s7, s8, s9, s10, s11, .no, .no, .no, .no], ⟨o4, _, _, _, _, _, _, p4, rfl⟩, ?_, ?_⟩
  · rintro i x η hi ⟨o5, s6, s7, s8, s9, s10, s11, p5, rfl⟩
    obtain ⟨hi4, rfl⟩ := rangeP_get hi
    refine w_gname ?_
    simp only [List.set_cons_zero, List.set_cons_succ]
    refine w_seq (w_par (w_arV (draw p5 rfl rfl fun o6 ride p6 hr => ?_)))
    refine w_arV (draw p6 rfl rfl fun o7 more p7 hm => w_arN ⟨rfl, trivial, ?_⟩)
    simp only [storesP, List.set_cons_zero, List.set_cons_succ]
    obtain ⟨rnm, r0, r1⟩ := hw.each ride hr
    have hwr : Rw (restR rs [ride.1]) := rw_rest _ hw
    have rp := rest_perm hw hr
    have rlen : (restR rs [ride.1]).length + 1 = rs.length := by
      have := rp.length_eq
      rw [List.length_append] at this
      exact this
    have rno : ∀ q ∈ restR rs [ride.1], q.1 ≠ ride.1 := fun q hq => by
      have := (List.mem_filter.mp hq).2
      simpa using this
    have hgr := rw_good hwr
    -- the line without it
    refine w_seq (w_set (w_methV (w_var (x := lineP C n rs) rfl ⟨⟨_, rfl, rfl⟩, w_cons (w_op (w_var (x := rowP ride) rfl (w_con (q_ixT (x := .str ride.1) rfl (w_nil ⟨by show 1 ≤ 5; decide, n, rs, [ride.1], rfl, n1, n2, hw, ?_, ?_⟩)))))⟩)))
    · intro w hw'
      rw [List.mem_singleton.mp hw']
      exact ⟨ride, hr, rfl⟩
    simp only [List.set_cons_zero, List.set_cons_succ]
    -- added again, it is the line; one trip less
    refine w_seq (w_if (w_or (w_bl (w_eqO (w_meth (w_var (x := lineP C n (restR rs [ride.1])) rfl ⟨⟨_, rfl, rfl⟩, w_cons (w_op (w_var (x := rowP ride) rfl (w_con (q_ixT (x := .str ride.1) rfl ?_))))⟩))))))
    refine w_cons (w_op (w_var (x := rowP ride) rfl (w_con (q_ixT (x := .int ride.2.1) rfl ?_))))
    refine w_cons (w_op (w_var (x := rowP ride) rfl (w_con (q_ixT (x := .int ride.2.2) rfl ?_))))
    refine w_nil ⟨n, restR rs [ride.1], ride, rfl, n1, n2, hwr, by omega, rnm, r0, r1, rno, fun us pm asc => ?_⟩
    obtain rfl : us = rs := perm_asc (pm.trans rp) asc hw.asc
    refine w_var (x := lineP C n us) rfl ⟨⟨_, rfl⟩, eqTy_line, n, us, _, rfl, hC, hg, .inr ⟨n, us, rfl, hg, _, rfl, ?_⟩⟩
    rw [show (decide (n = n ∧ us = us) != true) = false by simp]
    refine q_iteF (w_bl (w_op (w_lenO (w_cons (w_var (x := lineP C n (restR us [ride.1])) rfl (w_nil ⟨_, rfl, n, restR us [ride.1], rfl, _, rfl, ⟨by omega, by omega⟩, ?_⟩))))))
    refine w_op (w_lenO (w_cons (w_var (x := lineP C n us) rfl (w_nil ⟨_, rfl, n, us, rfl, _, rfl, ⟨by omega, by omega⟩, w_con (q_sub (q_neN ?_))⟩))))
    rw [show ((restR us [ride.1]).length : Int) = (us.length : Int) - 1 by omega, ne_self]
    refine q_iteF (w_next ?_)
    dsimp only
    -- without it twice; the counts
    refine w_seq (w_if (w_or (w_bl (w_eqO (w_methV (w_var (x := lineP C n (restR us [ride.1])) rfl ⟨⟨_, rfl, rfl⟩, w_nil ⟨by decide, n, restR us [ride.1], [], rfl, n1, n2, hwr, fun _ z => (by cases z), ?_⟩⟩))))))
    refine w_methV (w_var (x := lineP C n us) rfl ⟨⟨_, rfl, rfl⟩, w_cons (w_op (w_var (x := rowP ride) rfl (w_con (q_ixT (x := .str ride.1) rfl ?_))))⟩)
    refine w_cons (w_op (w_var (x := rowP ride) rfl (w_con (q_ixT (x := .str ride.1) rfl (w_nil ⟨by show 2 ≤ 5; decide, n, us, [ride.1, ride.1], rfl, n1, n2, hw, ?_, ?_⟩)))))
    · intro w hw'
      have : w = ride.1 := by simpa using hw'
      rw [this]
      exact ⟨ride, hr, rfl⟩
    have e2 : restR (restR us [ride.1]) [] = restR us [ride.1] := List.filter_eq_self.mpr fun x _ => by simp
    have e3 : restR us [ride.1, ride.1] = restR us [ride.1] := List.filter_congr fun x _ => by simp
    rw [e2, e3]
    refine ⟨⟨_, rfl⟩, eqTy_line, n, restR us [ride.1], _, rfl, hC, hgr, .inr ⟨n, restR us [ride.1], rfl, hgr, _, rfl, ?_⟩⟩
    rw [show (decide (n = n ∧ restR us [ride.1] = restR us [ride.1]) != true) = false by simp]
    refine q_iteF (w_bl (w_op (w_call (w_cons (w_var (x := lineP C n us) rfl (w_nil ⟨n, us, rfl, hC, n1, n2, hw, ?_⟩))))))
    refine w_op (w_call (w_cons (w_var (x := lineP C n (restR us [ride.1])) rfl (w_nil ⟨n, restR us [ride.1], rfl, hC, n1, n2, hwr, ?_⟩))))
    refine w_var (x := .int n) rfl (q_mul (.inr ⟨by omega, by omega⟩) (q_gt ?_))
    have hless := count_less n1 hw hr
    rw [decide_eq_false (show ¬ countI n (restR us [ride.1]) * n < countI n us by omega)]
    refine q_iteF (w_next ?_)
    dsimp only
    -- the plan, and less a pair
    have rest : ∀ o8 s10, Pool o8 → tSeqP (tSetP 11 (tMethVP C ("without" : Str) (sp_Line_without K C) (tVarP 4) (tConsP (tOpP rIxP (tVarP 7) (tConP (.int 0))) (tConsP (tOpP rIxP (tVarP 8) (tConP (.int 0))) (tNilP))))) (tIfSP (tAndP (tBlP (tOpP (rEqP true) (tVarP 7) (tVarP 8))) (tBlP (tEqOP K C (sp_Line_eq K C) true (tVarP 11) (tMethVP C ("without" : Str) (sp_Line_without K C) (tMethVP C ("without" : Str) (sp_Line_without K C) (tVarP 4) (tConsP (tOpP rIxP (tVarP 8) (tConP (.int 0))) (tNilP))) (tConsP (tOpP rIxP (tVarP 7) (tConP (.int 0))) (tNilP)))))) (tRetP (tConP (.bl false))) (tNextP))
        { nx := fun η => ∃ o5 s6 s7 s8 s9 s10 s11, Pool o5 ∧ η = [.ow o5, .va (.int n), .va (.lst (ws.map .str)), .va (rowsP us), .va (lineP C n us), .va (.int cc), s6, s7, s8, s9, s10, s11, .no, .no, .no, .no], rt := fun x η' => ∃ o', η'[0]? = some (Sl.ow o') ∧ PR x o' }
        [.ow o8, .va (.int n), .va (.lst (ws.map .str)), .va (rowsP us), .va (lineP C n us), .va (.int cc), .va (.int (0 + (i : Int))), .va (rowP ride), .va (rowP more), .va (lineP C n (restR us [ride.1])), s10, s11, .no, .no, .no, .no] := by
      intro o8 s10 p8
      refine w_seq (w_set (w_methV (w_var (x := lineP C n us) rfl ⟨⟨_, rfl, rfl⟩, w_cons (w_op (w_var (x := rowP ride) rfl (w_con (q_ixT (x := .str ride.1) rfl ?_))))⟩)))
      refine w_cons (w_op (w_var (x := rowP more) rfl (w_con (q_ixT (x := .str more.1) rfl (w_nil ⟨by show 2 ≤ 5; decide, n, us, [ride.1, more.1], rfl, n1, n2, hw, ?_, ?_⟩)))))
      · intro w hw'
        rcases List.mem_cons.mp hw' with rfl | hw'
        · exact ⟨ride, hr, rfl⟩
        · rw [List.mem_singleton.mp hw']
          exact ⟨more, hm, rfl⟩
      simp only [List.set_cons_zero, List.set_cons_succ]
      refine w_if (w_and (w_bl (w_op (w_var (x := rowP ride) rfl (w_var (x := rowP more) rfl (q_neRowS (hg ride hr) (hg more hm) ?_))))))
      cases hrm : decide (ride = more) with
      | true => exact q_iteF (q_iteF (w_next ⟨_, _, _, _, _, _, _, p8, rfl⟩))
      | false =>
        have hne : ride.1 ≠ more.1 := fun e => (of_decide_eq_false hrm) (name_inj hw hr hm e)
        have hwm : Rw (restR us [more.1]) := rw_rest _ hw
        refine q_iteT (w_bl (w_eqO (w_var (x := lineP C n (restR us [ride.1, more.1])) rfl (w_methV (w_methV (w_var (x := lineP C n us) rfl ⟨⟨_, rfl, rfl⟩, w_cons (w_op (w_var (x := rowP more) rfl (w_con (q_ixT (x := .str more.1) rfl (w_nil ?_)))))⟩))))))
        refine ⟨by show 1 ≤ 5; decide, n, us, [more.1], rfl, n1, n2, hw, fun w hw' => ?_, ⟨⟨_, rfl, rfl⟩, ?_⟩⟩
        · rw [List.mem_singleton.mp hw']
          exact ⟨more, hm, rfl⟩
        refine w_cons (w_op (w_var (x := rowP ride) rfl (w_con (q_ixT (x := .str ride.1) rfl (w_nil ⟨by show 1 ≤ 5; decide, n, restR us [more.1], [ride.1], rfl, n1, n2, hwm, fun w hw' => ?_, ?_⟩)))))
        · rw [List.mem_singleton.mp hw']
          exact ⟨ride, List.mem_filter.mpr ⟨hr, by simpa using hne⟩, rfl⟩
        have e4 : restR (restR us [more.1]) [ride.1] = restR us [ride.1, more.1] := by
          unfold restR
          rw [List.filter_filter]
          exact List.filter_congr fun x _ => by
            by_cases a : x.1 = ride.1 <;> by_cases b : x.1 = more.1 <;> simp [a, b]
        rw [e4]
        have hg4 := rw_good (rw_rest [ride.1, more.1] hw)
        refine ⟨⟨_, rfl⟩, eqTy_line, n, restR us [ride.1, more.1], _, rfl, hC, hg4, .inr ⟨n, restR us [ride.1, more.1], rfl, hg4, _, rfl, ?_⟩⟩
        rw [show (decide (n = n ∧ restR us [ride.1, more.1] = restR us [ride.1, more.1]) != true) = false by simp]
        exact q_iteF (w_next ⟨_, _, _, _, _, _, _, p8, rfl⟩)
    refine w_seq (w_if (w_bl (w_op (w_var (x := .int cc) rfl (w_con (q_gt (q_ite (fun c0 => ?_) fun c0 => w_next (rest o7 _ p7))))))))
    refine w_seq (w_set (w_call (w_cons (w_var (x := lineP C n us) rfl (w_cons (w_callR rfl (w_cons (w_var (x := .int cc) rfl (w_nil (q_callM rfl ⟨cc, p7, rfl, c0, cn1, fun o8 mm p8 m0 m1 => w_nil ?_⟩))))))))))
    have ho : overR n us = none := count_over m0 (by rw [← hcc]; exact m1)
    refine ⟨n, us, mm, rfl, hC, n1, n2, hw, m0, by rw [← hcc]; exact m1, fun ps pp pa => ?_⟩
    have ok := plan_num n1 hw ho pp pa
    have okl := plan_less ride.1 ok
    have psl : ps.length ≤ 24 := by
      obtain ⟨sd, h1, h2, _⟩ := ok
      rw [← h2, List.length_map, ← List.length_map (f := fun x : Seat => x.1), h1]
      exact hl
    simp only [List.set_cons_zero, List.set_cons_succ]
    refine w_if (w_or (w_bl (w_op (w_call (w_cons (w_var (x := lineP C n (restR us [ride.1])) rfl (w_cons (w_call (w_cons (w_var (x := planV ps) rfl (w_cons (w_op (w_var (x := rowP ride) rfl (w_con (q_ixT (x := .str ride.1) rfl ?_)))))))))))))))
    refine w_nil ⟨ps, ride.1, rfl, psl, w_nil ⟨n, restR us [ride.1], _, rfl, hC, n1, n2, hwr, .inl rfl, knP_plan _, w_con (q_isnotT ?_)⟩⟩
    rw [isPlan_true okl]
    refine q_iteF (w_bl (w_op (w_call (w_cons (w_var (x := lineP C n us) rfl (w_cons (w_var (x := planV ps) rfl (w_nil ⟨n, us, _, rfl, hC, n1, n2, hw, .inl rfl, knP_plan _, w_con (q_isnotT ?_)⟩))))))))
    rw [isPlan_true ok]
    exact q_iteF (w_next (rest o8 _ p8))
  · rintro η ⟨o5, s6, s7, s8, s9, s10, s11, p5, rfl⟩
    dsimp only
    refine w_seq (w_set (w_val (w_lc (w_istr (w_con ?_)))))
    show ∃ Inv : Nat → List PV → EP' → Prop, _
    refine ⟨fun i acc η => acc = (qnames.take i).map PV.str ∧ η = [.ow o5, .va (.int n), .va (.lst (ws.map .str)), .va (rowsP rs), .va (lineP C n rs), .va (.int cc), s6, s7, s8, s9, s10, s11, .no, .no, .no, .no], ⟨rfl, rfl⟩, ?_, ?_⟩
    · rintro i x acc η hi ⟨rfl, rfl⟩
      replace hi : (abcS.cps.toList.map fun c => PV.str ⟨#[c]⟩)[i]? = some x := hi
      rw [List.getElem?_map] at hi
      obtain ⟨c, hc, rfl⟩ := Option.map_eq_some_iff.mp hi
      have hq : qnames[i]? = some ((("q" : String) : Str) ++ ⟨#[c]⟩) := by
        unfold qnames
        rw [List.getElem?_map, hc]; rfl
      have hil : i < qnames.length := (List.getElem?_eq_some_iff.mp hq).1
      rw [qnames_len] at hil
      refine w_gname (w_yes (q_iteT ?_))
      refine w_op (w_con (w_var (x := .str ⟨#[c]⟩) rfl (q_addS (by show 1 + 1 ≤ sizeLine; omega) ⟨by rw [List.length_map, List.length_take]; omega, ?_, rfl⟩)))
      rw [take_map hq]
    · rintro acc η ⟨rfl, rfl⟩
      have el : (List.map (fun c => PV.str ⟨#[c]⟩) abcS.cps.toList).length = qnames.length := by
        unfold qnames
        rw [List.length_map, List.length_map]
      replace el : ((("abcdefghijklmnopqrstuvwxyz" : String) : Str).cps.toList.map fun c => PV.str ⟨#[c]⟩).length = qnames.length := el
      rw [el, List.take_length]
      simp only [List.set_cons_zero, List.set_cons_succ]
      refine w_seq (w_set (w_op (w_val (w_lc (w_lstS (w_var (x := .lst (qnames.map .str)) rfl ?_))))))
      show ∃ Inv : Nat → List PV → EP' → Prop, _
      refine ⟨fun i acc η => acc = ((qnames.take i).filter fun w => !decide (w ∈ ws)).map PV.str ∧ η = [.ow o5, .va (.int n), .va (.lst (ws.map .str)), .va (rowsP rs), .va (lineP C n rs), .va (.int cc), s6, s7, s8, s9, s10, s11, .va (.lst (qnames.map .str)), .no, .no, .no], ⟨rfl, rfl⟩, ?_, ?_⟩
      · rintro i x acc η hi ⟨rfl, rfl⟩
        rw [List.getElem?_map] at hi
        obtain ⟨w, hw1, rfl⟩ := Option.map_eq_some_iff.mp hi
        refine w_gname (w_bl (w_op (w_var (x := .str w) rfl (w_var (x := .lst (ws.map .str)) rfl (q_notInLs ?_)))))
        cases hb1 : (!decide (w ∈ ws)) with
        | true =>
          refine q_iteT (w_var (x := .str w) rfl ⟨?_, ?_, rfl⟩)
          · rw [List.length_map]
            have := List.length_filter_le (fun w => !decide (w ∈ ws)) (qnames.take i)
            rw [List.length_take, qnames_len] at this
            omega
          · rw [take_filterT hw1 hb1, List.map_append]
            rfl
        | false => exact q_iteF ⟨by rw [take_filterF hw1 hb1], rfl⟩
      · rintro acc η ⟨rfl, rfl⟩
        rw [List.length_map, List.take_length]
        have hd := dropsS qnames_nd ws
        rw [qnames_len] at hd
        obtain ⟨fr, l, hfr⟩ : ∃ fr l, qnames.filter (fun w => !decide (w ∈ ws)) = fr :: l := by
          cases hq : qnames.filter (fun w => !decide (w ∈ ws)) with
          | nil => rw [hq] at hd; simp at hd; omega
          | cons a b => exact ⟨a, b, rfl⟩
        have hfm : fr ∈ qnames.filter (fun w => !decide (w ∈ ws)) := by rw [hfr]; exact List.mem_cons_self
        obtain ⟨hf1, hf2⟩ := List.mem_filter.mp hfm
        have hf3 : fr ∉ ws := by simpa using hf2
        rw [hfr]
        refine w_con (q_ix (x := .str fr) (at_map (f := PV.str) (xs := fr :: l) (j := 0) fr (by decide) (by show (0 : Int) < ((l.length + 1 : Nat) : Int); omega)) ?_)
        simp only [List.set_cons_zero, List.set_cons_succ]
        refine w_ret (w_op (w_call (w_cons (w_meth (w_var (x := lineP C n rs) rfl ⟨⟨_, rfl, rfl⟩, w_cons (w_var (x := .str fr) rfl ?_)⟩)))))
        refine w_cons (w_op (w_con (w_con (q_pow ⟨by decide, by decide, by decide⟩ ?_))))
        refine w_cons (w_op (w_op (w_con (w_con (q_pow ⟨by decide, by decide, by decide⟩ (w_con (q_add ?_)))))))
        have d0 : (0 : Int) ≤ 10 ^ 40 := by decide
        have d1 : (10 : Int) ^ 40 < 10 ^ 40 + 5 := by decide
        refine w_nil ⟨n, rs, (fr, 10 ^ 40, 10 ^ 40 + 5), rfl, n1, n2, hw, by omega, qnames_ok fr hf1, d0, d1, fun q hq e => hf3 ?_, fun us pm asc => ?_⟩
        · have e' : q.1 = fr := e
          rw [← e']
          exact (hb q hq).1
        have hu : Rw us := ⟨by rw [pm.length_eq, List.length_append]; show rs.length + 1 ≤ 24; omega, fun q hq => by
          rcases List.mem_append.mp (pm.mem_iff.mp hq) with z | z
          · exact hw.each q z
          · rw [List.mem_singleton.mp z]
            exact ⟨qnames_ok fr hf1, d0, d1⟩, asc⟩
        refine w_nil ⟨n, us, rfl, hC, n1, n2, hu, ?_⟩
        rw [count_far n1 hw hu pm (fun r hr => Int.le_of_lt (hb r hr).2) d1, ← hcc]
        refine w_op (w_var (x := .int cc) rfl (w_var (x := .int n) rfl (q_mul (.inr ⟨by omega, by omega⟩) (q_eqN ?_))))
        rw [decide_eq_true rfl]
        exact ⟨o5, rfl, hp o5 p5⟩
theorem all_true70 : ∀ n : Nat, blsOf (List.replicate n (.bl true)) = some (List.replicate n true)
  | 0 => rfl
  | n + 1 => by rw [List.replicate_succ, List.replicate_succ, blsOf, all_true70 n]; rfl
theorem rd_law (h : sp_law K C args P) : ts_law K C { nx := fun _ => P .non, rt := fun x _ => P x } (startP 2 args) := by
  obtain ⟨ns, rfl, hl, hC, hp⟩ := h
  have e : startP 2 [.scr ns] = [.va (.scr ns), .no] := rfl
  rw [e]
  have sz : 1000 < sizeLine := by decide
  refine w_ret (w_cb (w_cons (w_val (w_lc (w_rng1 (w_cb (w_cons (w_con (w_cons (w_cb (w_cons (w_cb (w_cons (w_var (x := .scr ns) rfl (w_nil (q_lenC (w_cons (w_con (w_nil (q_min ?_))))))))))))))))))))
  refine w_nil (q_max ?_)
  obtain ⟨N, hN, N0, N6⟩ : ∃ N : Int, (if (if (4 : Int) < (ns.length : Int) then (4 : Int) else (ns.length : Int)) > 2 then (if (4 : Int) < (ns.length : Int) then (4 : Int) else (ns.length : Int)) else 2) = N ∧ 0 ≤ N ∧ N ≤ 4 := ⟨_, rfl, by split <;> (first | split | skip) <;> omega, by split <;> (first | split | skip) <;> omega⟩
  rw [hN]
  refine ⟨by omega, by omega, fun i acc η => acc = List.replicate i (.bl true) ∧ η = [.va (.scr ns), .no], ⟨rfl, rfl⟩, ?_, ?_⟩
  · rintro i x acc η hi ⟨rfl, rfl⟩
    obtain ⟨hn, rfl⟩ := rangeP_get hi
    refine w_gname (w_yes (q_iteT ?_))
    refine w_callRF' (w_callF' (w_cons (w_call (w_cons (w_var (x := .scr ns) rfl (w_cons (w_var rfl (w_nil ⟨ns, _, rfl, by omega, by omega, fun c => ?_⟩))))))))
    refine w_nil ⟨c, rfl, fun s d s0 s1 d0 => w_nil ⟨⟨s, d, 0, rfl, s0, s1, d0⟩, rfl, hC, fun o' p' => ?_⟩⟩
    exact ⟨by rw [List.length_replicate]; omega, by rw [List.replicate_succ'], rfl⟩
  · rintro acc η ⟨rfl, rfl⟩
    rw [rangeP_len]
    refine w_nil (q_all (all_true70 _) ?_)
    rw [show ∀ n : Nat, (List.replicate n true).all id = true from fun n => by simp]
    exact hp
end
end Z
set_option Elab.async false
set_option linter.all false
set_option maxRecDepth 100000
set_option maxHeartbeats 4000000
namespace ZK
open PySem PySem.Spec L2 Z
open PyProof.Rows hiding St
def top (i : Nat) : Stmt := PySem.Challenge.pw_seatchains_k70_whole_added_and_taken_out.main.body.getD i (.Pass ⟨0, 0, 0, 0⟩)
abbrev s_is_integer : Stmt := top 18
abbrev N_is_integer : List Str := [("thing" : Str)]
theorem sc_is_integer : FnScope N_is_integer [("thing" : Str)] (defScope s_is_integer) := ⟨rfl, rfl, rfl, by decide +kernel, rfl, by decide +kernel, by decide +kernel⟩
abbrev s_is_station : Stmt := top 19
abbrev N_is_station : List Str := [("thing" : Str)]
theorem sc_is_station : FnScope N_is_station [("thing" : Str)] (defScope s_is_station) := ⟨rfl, rfl, rfl, by decide +kernel, rfl, by decide +kernel, by decide +kernel⟩
abbrev s_is_later : Stmt := top 20
abbrev N_is_later : List Str := [("thing" : Str), ("start" : Str)]
theorem sc_is_later : FnScope N_is_later [("thing" : Str), ("start" : Str)] (defScope s_is_later) := ⟨rfl, rfl, rfl, by decide +kernel, rfl, by decide +kernel, by decide +kernel⟩
abbrev s_is_trip_name : Stmt := top 21
abbrev N_is_trip_name : List Str := [("thing" : Str), ("letter" : Str)]
theorem sc_is_trip_name : FnScope N_is_trip_name [("thing" : Str)] (defScope s_is_trip_name) := ⟨rfl, rfl, rfl, by decide +kernel, rfl, by decide +kernel, by decide +kernel⟩
abbrev s_is_trip : Stmt := top 22
abbrev N_is_trip : List Str := [("thing" : Str), ("name" : Str), ("start" : Str), ("end" : Str)]
theorem sc_is_trip : FnScope N_is_trip [("thing" : Str)] (defScope s_is_trip) := ⟨rfl, rfl, rfl, by decide +kernel, rfl, by decide +kernel, by decide +kernel⟩
abbrev s_is_pair : Stmt := top 25
abbrev N_is_pair : List Str := [("thing" : Str)]
theorem sc_is_pair : FnScope N_is_pair [("thing" : Str)] (defScope s_is_pair) := ⟨rfl, rfl, rfl, by decide +kernel, rfl, by decide +kernel, by decide +kernel⟩
abbrev s_is_seat : Stmt := top 24
abbrev N_is_seat : List Str := [("thing" : Str), ("seats" : Str)]
theorem sc_is_seat : FnScope N_is_seat [("thing" : Str), ("seats" : Str)] (defScope s_is_seat) := ⟨rfl, rfl, rfl, by decide +kernel, rfl, by decide +kernel, by decide +kernel⟩
abbrev s_check_seats : Stmt := top 30
abbrev N_check_seats : List Str := [("seats" : Str)]
theorem sc_check_seats : FnScope N_check_seats [("seats" : Str)] (defScope s_check_seats) := ⟨rfl, rfl, rfl, by decide +kernel, rfl, by decide +kernel, by decide +kernel⟩
abbrev s_check_stations : Stmt := top 31
abbrev N_check_stations : List Str := [("start" : Str), ("end" : Str)]
theorem sc_check_stations : FnScope N_check_stations [("start" : Str), ("end" : Str)] (defScope s_check_stations) := ⟨rfl, rfl, rfl, by decide +kernel, rfl, by decide +kernel, by decide +kernel⟩
abbrev s_valid_beginning : Stmt := top 32
abbrev N_valid_beginning : List Str := [("trips" : Str), ("before" : Str), ("at" : Str), ("thing" : Str)]
theorem sc_valid_beginning : FnScope N_valid_beginning [("trips" : Str)] (defScope s_valid_beginning) := ⟨rfl, rfl, rfl, by decide +kernel, rfl, by decide +kernel, by decide +kernel⟩
abbrev s_load_of : Stmt := top 33
abbrev N_load_of : List Str := [("trips" : Str), ("station" : Str), ("name" : Str), ("start" : Str), ("end" : Str)]
theorem sc_load_of : FnScope N_load_of [("trips" : Str), ("station" : Str)] (defScope s_load_of) := ⟨rfl, rfl, rfl, by decide +kernel, rfl, by decide +kernel, by decide +kernel⟩
abbrev s_trip_named : Stmt := top 34
abbrev N_trip_named : List Str := [("trips" : Str), ("name" : Str), ("row" : Str)]
theorem sc_trip_named : FnScope N_trip_named [("trips" : Str), ("name" : Str)] (defScope s_trip_named) := ⟨rfl, rfl, rfl, by decide +kernel, rfl, by decide +kernel, by decide +kernel⟩
abbrev s_Line_capacity : Stmt := inClass (top 29) 10
abbrev N_Line_capacity : List Str := [("self" : Str)]
theorem sc_Line_capacity : FnScope N_Line_capacity [("self" : Str)] (defScope s_Line_capacity) := ⟨rfl, rfl, rfl, by decide +kernel, rfl, by decide +kernel, by decide +kernel⟩
abbrev s_Line_trips : Stmt := inClass (top 29) 11
abbrev N_Line_trips : List Str := [("self" : Str)]
theorem sc_Line_trips : FnScope N_Line_trips [("self" : Str)] (defScope s_Line_trips) := ⟨rfl, rfl, rfl, by decide +kernel, rfl, by decide +kernel, by decide +kernel⟩
abbrev s_Line_load : Stmt := inClass (top 29) 14
abbrev N_Line_load : List Str := [("self" : Str), ("station" : Str)]
theorem sc_Line_load : FnScope N_Line_load [("self" : Str), ("station" : Str)] (defScope s_Line_load) := ⟨rfl, rfl, rfl, by decide +kernel, rfl, by decide +kernel, by decide +kernel⟩
abbrev s_Line_walk : Stmt := inClass (top 29) 15
abbrev N_Line_walk : List Str := [("self" : Str), ("row" : Str)]
theorem sc_Line_walk : GScope N_Line_walk [("self" : Str)] (defScope s_Line_walk) := ⟨rfl, rfl, rfl, by decide +kernel, rfl, by decide +kernel, by decide +kernel⟩
abbrev s_Line_len : Stmt := inClass (top 29) 4
abbrev N_Line_len : List Str := [("self" : Str)]
theorem sc_Line_len : FnScope N_Line_len [("self" : Str)] (defScope s_Line_len) := ⟨rfl, rfl, rfl, by decide +kernel, rfl, by decide +kernel, by decide +kernel⟩
abbrev s_Line_str : Stmt := inClass (top 29) 5
abbrev N_Line_str : List Str := [("self" : Str), ("words" : Str), ("name" : Str), ("start" : Str), ("end" : Str)]
theorem sc_Line_str : FnScope N_Line_str [("self" : Str)] (defScope s_Line_str) := ⟨rfl, rfl, rfl, by decide +kernel, rfl, by decide +kernel, by decide +kernel⟩
abbrev s_Line_init : Stmt := inClass (top 29) 2
abbrev N_Line_init : List Str := [("self" : Str), ("seats" : Str), ("trips" : Str), ("valid" : Str)]
theorem sc_Line_init : FnScope N_Line_init [("self" : Str), ("seats" : Str), ("trips" : Str)] (defScope s_Line_init) := ⟨rfl, rfl, rfl, by decide +kernel, rfl, by decide +kernel, by decide +kernel⟩
abbrev s_Line_eq : Stmt := inClass (top 29) 3
abbrev N_Line_eq : List Str := [("self" : Str), ("other" : Str)]
theorem sc_Line_eq : FnScope N_Line_eq [("self" : Str), ("other" : Str)] (defScope s_Line_eq) := ⟨rfl, rfl, rfl, by decide +kernel, rfl, by decide +kernel, by decide +kernel⟩
abbrev s_Line_added : Stmt := inClass (top 29) 17
abbrev N_Line_added : List Str := [("self" : Str), ("name" : Str), ("start" : Str), ("end" : Str)]
theorem sc_Line_added : FnScope N_Line_added [("self" : Str), ("name" : Str), ("start" : Str), ("end" : Str)] (defScope s_Line_added) := ⟨rfl, rfl, rfl, by decide +kernel, rfl, by decide +kernel, by decide +kernel⟩
abbrev s_Line_without : Stmt := inClass (top 29) 18
abbrev N_Line_without : List Str := [("self" : Str), ("names" : Str), ("name" : Str), ("row" : Str)]
theorem sc_Line_without : FnScope N_Line_without [("self" : Str), ("names" : Str)] (defScope s_Line_without) := ⟨rfl, rfl, rfl, by decide +kernel, rfl, by decide +kernel, by decide +kernel⟩
abbrev s_meet : Stmt := top 37
abbrev N_meet : List Str := [("trip" : Str), ("other" : Str)]
theorem sc_meet : FnScope N_meet [("trip" : Str), ("other" : Str)] (defScope s_meet) := ⟨rfl, rfl, rfl, by decide +kernel, rfl, by decide +kernel, by decide +kernel⟩
abbrev s_seats_left : Stmt := top 38
abbrev N_seats_left : List Str := [("seats" : Str), ("trip" : Str), ("seated" : Str), ("taken" : Str), ("other" : Str), ("seat" : Str)]
theorem sc_seats_left : FnScope N_seats_left [("seats" : Str), ("trip" : Str), ("seated" : Str)] (defScope s_seats_left) := ⟨rfl, rfl, rfl, by decide +kernel, rfl, by decide +kernel, by decide +kernel⟩
abbrev s_plan_of : Stmt := top 39
abbrev N_plan_of : List Str := [("seated" : Str), ("trip" : Str), ("seat" : Str)]
theorem sc_plan_of : FnScope N_plan_of [("seated" : Str)] (defScope s_plan_of) := ⟨rfl, rfl, rfl, by decide +kernel, rfl, by decide +kernel, by decide +kernel⟩
abbrev s_check_line : Stmt := top 41
abbrev N_check_line : List Str := [("line" : Str)]
theorem sc_check_line : FnScope N_check_line [("line" : Str)] (defScope s_check_line) := ⟨rfl, rfl, rfl, by decide +kernel, rfl, by decide +kernel, by decide +kernel⟩
abbrev s_names_trip_and_seat : Stmt := top 43
abbrev N_names_trip_and_seat : List Str := [("line" : Str), ("thing" : Str), ("name" : Str), ("seat" : Str)]
theorem sc_names_trip_and_seat : FnScope N_names_trip_and_seat [("line" : Str), ("thing" : Str)] (defScope s_names_trip_and_seat) := ⟨rfl, rfl, rfl, by decide +kernel, rfl, by decide +kernel, by decide +kernel⟩
abbrev s_valid_pairs : Stmt := top 42
abbrev N_valid_pairs : List Str := [("line" : Str), ("things" : Str), ("seated" : Str), ("trip" : Str), ("thing" : Str)]
theorem sc_valid_pairs : FnScope N_valid_pairs [("line" : Str), ("things" : Str)] (defScope s_valid_pairs) := ⟨rfl, rfl, rfl, by decide +kernel, rfl, by decide +kernel, by decide +kernel⟩
abbrev s_is_plan : Stmt := top 45
abbrev N_is_plan : List Str := [("line" : Str), ("thing" : Str)]
theorem sc_is_plan : FnScope N_is_plan [("line" : Str), ("thing" : Str)] (defScope s_is_plan) := ⟨rfl, rfl, rfl, by decide +kernel, rfl, by decide +kernel, by decide +kernel⟩
abbrev s_overfull : Stmt := top 46
abbrev N_overfull : List Str := [("line" : Str), ("name" : Str), ("start" : Str), ("end" : Str)]
theorem sc_overfull : FnScope N_overfull [("line" : Str)] (defScope s_overfull) := ⟨rfl, rfl, rfl, by decide +kernel, rfl, by decide +kernel, by decide +kernel⟩
abbrev s_choices : Stmt := top 49
abbrev N_choices : List Str := [("line" : Str), ("earlier" : Str), ("sizes" : Str), ("trip" : Str), ("other" : Str)]
theorem sc_choices : FnScope N_choices [("line" : Str)] (defScope s_choices) := ⟨rfl, rfl, rfl, by decide +kernel, rfl, by decide +kernel, by decide +kernel⟩
abbrev s_count : Stmt := top 47
abbrev N_count : List Str := [("line" : Str), ("product" : Str), ("size" : Str)]
theorem sc_count : FnScope N_count [("line" : Str)] (defScope s_count) := ⟨rfl, rfl, rfl, by decide +kernel, rfl, by decide +kernel, by decide +kernel⟩
abbrev s_digits_of : Stmt := top 51
abbrev N_digits_of : List Str := [("number" : Str), ("sizes" : Str), ("digits" : Str), ("size" : Str)]
theorem sc_digits_of : FnScope N_digits_of [("number" : Str), ("sizes" : Str)] (defScope s_digits_of) := ⟨rfl, rfl, rfl, by decide +kernel, rfl, by decide +kernel, by decide +kernel⟩
abbrev s_numbered : Stmt := top 50
abbrev N_numbered : List Str := [("line" : Str), ("number" : Str), ("digits" : Str), ("seated" : Str), ("trip" : Str), ("digit" : Str), ("left" : Str)]
theorem sc_numbered : FnScope N_numbered [("line" : Str), ("number" : Str)] (defScope s_numbered) := ⟨rfl, rfl, rfl, by decide +kernel, rfl, by decide +kernel, by decide +kernel⟩
abbrev s_plan_at : Stmt := top 48
abbrev N_plan_at : List Str := [("line" : Str), ("number" : Str)]
theorem sc_plan_at : FnScope N_plan_at [("line" : Str), ("number" : Str)] (defScope s_plan_at) := ⟨rfl, rfl, rfl, by decide +kernel, rfl, by decide +kernel, by decide +kernel⟩
abbrev s_law_cell : Stmt := top 53
abbrev N_law_cell : List Str := [("_law_script" : Str), ("_law_k" : Str), ("_law_state" : Str), ("_law_cell_here" : Str)]
theorem sc_law_cell : FnScope N_law_cell [("_law_script" : Str), ("_law_k" : Str)] (defScope s_law_cell) := ⟨rfl, rfl, rfl, by decide +kernel, rfl, by decide +kernel, by decide +kernel⟩
abbrev s_law_pool : Stmt := top 54
abbrev N_law_pool : List Str := [("_law_cell_here" : Str), ("_law_digits" : Str)]
theorem sc_law_pool : FnScope N_law_pool [("_law_cell_here" : Str)] (defScope s_law_pool) := ⟨rfl, rfl, rfl, by decide +kernel, rfl, by decide +kernel, by decide +kernel⟩
abbrev s_law_draw : Stmt := top 55
abbrev N_law_draw : List Str := [("_law_pool_here" : Str), ("_law_many" : Str), ("_law_state" : Str), ("_law_digit" : Str)]
theorem sc_law_draw : FnScope N_law_draw [("_law_pool_here" : Str), ("_law_many" : Str)] (defScope s_law_draw) := ⟨rfl, rfl, rfl, by decide +kernel, rfl, by decide +kernel, by decide +kernel⟩
abbrev s_law_words : Stmt := top 56
abbrev N_law_words : List Str := [("_law_pool_here" : Str), ("_law_many" : Str), ("_law_letters" : Str), ("_law_menu" : Str), ("_law_way" : Str), ("_law_begin" : Str), ("_law_stem" : Str), ("_law_at" : Str), ("_law_k" : Str)]
theorem sc_law_words : FnScope N_law_words [("_law_pool_here" : Str), ("_law_many" : Str)] (defScope s_law_words) := ⟨rfl, rfl, rfl, by decide +kernel, rfl, by decide +kernel, by decide +kernel⟩
abbrev s_law_far : Stmt := top 57
abbrev N_law_far : List Str := [("_law_pool_here" : Str), ("_law_high" : Str), ("_law_found" : Str), ("_law_here" : Str), ("_law_way" : Str), ("_law_k" : Str)]
theorem sc_law_far : FnScope N_law_far [("_law_pool_here" : Str), ("_law_high" : Str)] (defScope s_law_far) := ⟨rfl, rfl, rfl, by decide +kernel, rfl, by decide +kernel, by decide +kernel⟩
abbrev s_law_rides : Stmt := top 58
abbrev N_law_rides : List Str := [("_law_pool_here" : Str), ("_law_words_here" : Str), ("_law_high" : Str), ("_law_places" : Str), ("_law_found" : Str), ("_law_last" : Str), ("_law_word" : Str), ("_law_way" : Str), ("_law_begin" : Str)]
theorem sc_law_rides : FnScope N_law_rides [("_law_pool_here" : Str), ("_law_words_here" : Str), ("_law_high" : Str)] (defScope s_law_rides) := ⟨rfl, rfl, rfl, by decide +kernel, rfl, by decide +kernel, by decide +kernel⟩
abbrev s_law_less : Stmt := top 59
abbrev N_law_less : List Str := [("_law_spots" : Str), ("_law_word" : Str), ("_law_pair" : Str)]
theorem sc_law_less : FnScope N_law_less [("_law_spots" : Str), ("_law_word" : Str)] (defScope s_law_less) := ⟨rfl, rfl, rfl, by decide +kernel, rfl, by decide +kernel, by decide +kernel⟩
abbrev s_law_right : Stmt := top 60
abbrev N_law_right : List Str := [("_law_pool_here" : Str), ("_law_width" : Str), ("_law_words_here" : Str), ("_law_rides_here" : Str), ("_law_made" : Str), ("_law_whole" : Str), ("_law_turn" : Str), ("_law_ride" : Str), ("_law_more_ride" : Str), ("_law_less_here" : Str), ("_law_spots" : Str), ("_law_two" : Str), ("_law_names" : Str), ("_law_fresh" : Str), ("_law_letter" : Str), ("_law_word" : Str)]
theorem sc_law_right : FnScope N_law_right [("_law_pool_here" : Str)] (defScope s_law_right) := ⟨rfl, rfl, rfl, by decide +kernel, rfl, by decide +kernel, by decide +kernel⟩
abbrev s_law : Stmt := top 61
abbrev N_law : List Str := [("_law_script" : Str), ("_law_k" : Str)]
theorem sc_law : FnScope N_law [("_law_script" : Str)] (defScope s_law) := ⟨rfl, rfl, rfl, by decide +kernel, rfl, by decide +kernel, by decide +kernel⟩
structure Ad where
  CLine : Addr
  cL : Addr
  tL : Addr
  eL : Addr
  mL : Value
  pS : Addr
  qT : Addr
  qC : Addr
  f_is_integer : Addr
  d_is_integer : FuncData
  f_is_station : Addr
  d_is_station : FuncData
  f_is_later : Addr
  d_is_later : FuncData
  f_is_trip_name : Addr
  d_is_trip_name : FuncData
  f_is_trip : Addr
  d_is_trip : FuncData
  f_is_pair : Addr
  d_is_pair : FuncData
  f_is_seat : Addr
  d_is_seat : FuncData
  f_check_seats : Addr
  d_check_seats : FuncData
  f_check_stations : Addr
  d_check_stations : FuncData
  f_valid_beginning : Addr
  d_valid_beginning : FuncData
  f_load_of : Addr
  d_load_of : FuncData
  f_trip_named : Addr
  d_trip_named : FuncData
  f_Line_capacity : Addr
  d_Line_capacity : FuncData
  f_Line_trips : Addr
  d_Line_trips : FuncData
  f_Line_load : Addr
  d_Line_load : FuncData
  f_Line_walk : Addr
  d_Line_walk : FuncData
  f_Line_len : Addr
  d_Line_len : FuncData
  f_Line_str : Addr
  d_Line_str : FuncData
  f_Line_init : Addr
  d_Line_init : FuncData
  f_Line_eq : Addr
  d_Line_eq : FuncData
  f_Line_added : Addr
  d_Line_added : FuncData
  f_Line_without : Addr
  d_Line_without : FuncData
  f_meet : Addr
  d_meet : FuncData
  f_seats_left : Addr
  d_seats_left : FuncData
  f_plan_of : Addr
  d_plan_of : FuncData
  f_check_line : Addr
  d_check_line : FuncData
  f_names_trip_and_seat : Addr
  d_names_trip_and_seat : FuncData
  f_valid_pairs : Addr
  d_valid_pairs : FuncData
  f_is_plan : Addr
  d_is_plan : FuncData
  f_overfull : Addr
  d_overfull : FuncData
  f_choices : Addr
  d_choices : FuncData
  f_count : Addr
  d_count : FuncData
  f_digits_of : Addr
  d_digits_of : FuncData
  f_numbered : Addr
  d_numbered : FuncData
  f_plan_at : Addr
  d_plan_at : FuncData
  f_law_cell : Addr
  d_law_cell : FuncData
  f_law_pool : Addr
  d_law_pool : FuncData
  f_law_draw : Addr
  d_law_draw : FuncData
  f_law_words : Addr
  d_law_words : FuncData
  f_law_far : Addr
  d_law_far : FuncData
  f_law_rides : Addr
  d_law_rides : FuncData
  f_law_less : Addr
  d_law_less : FuncData
  f_law_right : Addr
  d_law_right : FuncData
  f_law : Addr
  d_law : FuncData
structure Tx (K : PySem.W.Frag) (mg : Str → Option Value) (a : Ad) : Prop where
  cl : Cls K a.CLine
  clt : ClsT K a.CLine
  g_Line : mg "Line" = some (.ref a.CLine)
  mkL : Mk K a.CLine a.f_Line_init
  dfl : ∀ {O H}, Reps K O H [.tup []] [.ref a.eL]
  p_trips : PropOf K a.CLine "trips" a.qT a.f_Line_trips
  p_capacity : PropOf K a.CLine "capacity" a.qC a.f_Line_capacity
  m_load : Meth K a.CLine "load" a.f_Line_load
  m_walk : Meth K a.CLine "walk" a.f_Line_walk
  m_added : Meth K a.CLine "added" a.f_Line_added
  m_without : Meth K a.CLine "without" a.f_Line_without
  ow : OwnC K a.CLine a.f_Line_eq a.f_Line_len a.f_Line_str
  n_seat_count : NoAttr K a.CLine "seat_count"
  n_rows : NoAttr K a.CLine "rows"
  n_queue : NoAttr K a.CLine "queue"
  F_is_integer : Fun K "is_integer" "is_integer" s_is_integer a.f_is_integer a.d_is_integer
  g_is_integer : mg "is_integer" = some (.ref a.f_is_integer)
  k_is_integer : PySem.W.keepIn K (.ref a.f_is_integer) = true
  F_is_station : Fun K "is_station" "is_station" s_is_station a.f_is_station a.d_is_station
  g_is_station : mg "is_station" = some (.ref a.f_is_station)
  k_is_station : PySem.W.keepIn K (.ref a.f_is_station) = true
  F_is_later : Fun K "is_later" "is_later" s_is_later a.f_is_later a.d_is_later
  g_is_later : mg "is_later" = some (.ref a.f_is_later)
  k_is_later : PySem.W.keepIn K (.ref a.f_is_later) = true
  F_is_trip_name : Fun K "is_trip_name" "is_trip_name" s_is_trip_name a.f_is_trip_name a.d_is_trip_name
  g_is_trip_name : mg "is_trip_name" = some (.ref a.f_is_trip_name)
  k_is_trip_name : PySem.W.keepIn K (.ref a.f_is_trip_name) = true
  F_is_trip : Fun K "is_trip" "is_trip" s_is_trip a.f_is_trip a.d_is_trip
  g_is_trip : mg "is_trip" = some (.ref a.f_is_trip)
  k_is_trip : PySem.W.keepIn K (.ref a.f_is_trip) = true
  F_is_pair : Fun K "is_pair" "is_pair" s_is_pair a.f_is_pair a.d_is_pair
  g_is_pair : mg "is_pair" = some (.ref a.f_is_pair)
  k_is_pair : PySem.W.keepIn K (.ref a.f_is_pair) = true
  F_is_seat : Fun K "is_seat" "is_seat" s_is_seat a.f_is_seat a.d_is_seat
  g_is_seat : mg "is_seat" = some (.ref a.f_is_seat)
  k_is_seat : PySem.W.keepIn K (.ref a.f_is_seat) = true
  F_check_seats : Fun K "check_seats" "check_seats" s_check_seats a.f_check_seats a.d_check_seats
  g_check_seats : mg "check_seats" = some (.ref a.f_check_seats)
  k_check_seats : PySem.W.keepIn K (.ref a.f_check_seats) = true
  F_check_stations : Fun K "check_stations" "check_stations" s_check_stations a.f_check_stations a.d_check_stations
  g_check_stations : mg "check_stations" = some (.ref a.f_check_stations)
  k_check_stations : PySem.W.keepIn K (.ref a.f_check_stations) = true
  F_valid_beginning : Fun K "valid_beginning" "valid_beginning" s_valid_beginning a.f_valid_beginning a.d_valid_beginning
  g_valid_beginning : mg "valid_beginning" = some (.ref a.f_valid_beginning)
  k_valid_beginning : PySem.W.keepIn K (.ref a.f_valid_beginning) = true
  F_load_of : Fun K "load_of" "load_of" s_load_of a.f_load_of a.d_load_of
  g_load_of : mg "load_of" = some (.ref a.f_load_of)
  k_load_of : PySem.W.keepIn K (.ref a.f_load_of) = true
  F_trip_named : Fun K "trip_named" "trip_named" s_trip_named a.f_trip_named a.d_trip_named
  g_trip_named : mg "trip_named" = some (.ref a.f_trip_named)
  k_trip_named : PySem.W.keepIn K (.ref a.f_trip_named) = true
  F_Line_capacity : Fun K "capacity" "Line.capacity" s_Line_capacity a.f_Line_capacity a.d_Line_capacity
  F_Line_trips : Fun K "trips" "Line.trips" s_Line_trips a.f_Line_trips a.d_Line_trips
  F_Line_load : Fun K "load" "Line.load" s_Line_load a.f_Line_load a.d_Line_load
  F_Line_walk : Fun K "walk" "Line.walk" s_Line_walk a.f_Line_walk a.d_Line_walk
  F_Line_len : Fun K "__len__" "Line.__len__" s_Line_len a.f_Line_len a.d_Line_len
  F_Line_str : Fun K "__str__" "Line.__str__" s_Line_str a.f_Line_str a.d_Line_str
  F_Line_init : FunX K "__init__" "Line.__init__" s_Line_init [.ref a.eL] a.cL a.f_Line_init a.d_Line_init
  F_Line_eq : Fun K "__eq__" "Line.__eq__" s_Line_eq a.f_Line_eq a.d_Line_eq
  F_Line_added : Fun K "added" "Line.added" s_Line_added a.f_Line_added a.d_Line_added
  F_Line_without : Fun K "without" "Line.without" s_Line_without a.f_Line_without a.d_Line_without
  F_meet : Fun K "meet" "meet" s_meet a.f_meet a.d_meet
  g_meet : mg "meet" = some (.ref a.f_meet)
  k_meet : PySem.W.keepIn K (.ref a.f_meet) = true
  F_seats_left : Fun K "seats_left" "seats_left" s_seats_left a.f_seats_left a.d_seats_left
  g_seats_left : mg "seats_left" = some (.ref a.f_seats_left)
  k_seats_left : PySem.W.keepIn K (.ref a.f_seats_left) = true
  F_plan_of : Fun K "plan_of" "plan_of" s_plan_of a.f_plan_of a.d_plan_of
  g_plan_of : mg "plan_of" = some (.ref a.f_plan_of)
  k_plan_of : PySem.W.keepIn K (.ref a.f_plan_of) = true
  F_check_line : Fun K "check_line" "check_line" s_check_line a.f_check_line a.d_check_line
  g_check_line : mg "check_line" = some (.ref a.f_check_line)
  k_check_line : PySem.W.keepIn K (.ref a.f_check_line) = true
  F_names_trip_and_seat : Fun K "names_trip_and_seat" "names_trip_and_seat" s_names_trip_and_seat a.f_names_trip_and_seat a.d_names_trip_and_seat
  g_names_trip_and_seat : mg "names_trip_and_seat" = some (.ref a.f_names_trip_and_seat)
  k_names_trip_and_seat : PySem.W.keepIn K (.ref a.f_names_trip_and_seat) = true
  F_valid_pairs : Fun K "valid_pairs" "valid_pairs" s_valid_pairs a.f_valid_pairs a.d_valid_pairs
  g_valid_pairs : mg "valid_pairs" = some (.ref a.f_valid_pairs)
  k_valid_pairs : PySem.W.keepIn K (.ref a.f_valid_pairs) = true
  F_is_plan : Fun K "is_plan" "is_plan" s_is_plan a.f_is_plan a.d_is_plan
  g_is_plan : mg "is_plan" = some (.ref a.f_is_plan)
  k_is_plan : PySem.W.keepIn K (.ref a.f_is_plan) = true
  F_overfull : Fun K "overfull" "overfull" s_overfull a.f_overfull a.d_overfull
  g_overfull : mg "overfull" = some (.ref a.f_overfull)
  k_overfull : PySem.W.keepIn K (.ref a.f_overfull) = true
  F_choices : Fun K "choices" "choices" s_choices a.f_choices a.d_choices
  g_choices : mg "choices" = some (.ref a.f_choices)
  k_choices : PySem.W.keepIn K (.ref a.f_choices) = true
  F_count : Fun K "count" "count" s_count a.f_count a.d_count
  g_count : mg "count" = some (.ref a.f_count)
  k_count : PySem.W.keepIn K (.ref a.f_count) = true
  F_digits_of : Fun K "digits_of" "digits_of" s_digits_of a.f_digits_of a.d_digits_of
  g_digits_of : mg "digits_of" = some (.ref a.f_digits_of)
  k_digits_of : PySem.W.keepIn K (.ref a.f_digits_of) = true
  F_numbered : Fun K "numbered" "numbered" s_numbered a.f_numbered a.d_numbered
  g_numbered : mg "numbered" = some (.ref a.f_numbered)
  k_numbered : PySem.W.keepIn K (.ref a.f_numbered) = true
  F_plan_at : Fun K "plan_at" "plan_at" s_plan_at a.f_plan_at a.d_plan_at
  g_plan_at : mg "plan_at" = some (.ref a.f_plan_at)
  k_plan_at : PySem.W.keepIn K (.ref a.f_plan_at) = true
  F_law_cell : Fun K "_law_cell" "_law_cell" s_law_cell a.f_law_cell a.d_law_cell
  g__law_cell : mg "_law_cell" = some (.ref a.f_law_cell)
  k__law_cell : PySem.W.keepIn K (.ref a.f_law_cell) = true
  F_law_pool : Fun K "_law_pool" "_law_pool" s_law_pool a.f_law_pool a.d_law_pool
  g__law_pool : mg "_law_pool" = some (.ref a.f_law_pool)
  k__law_pool : PySem.W.keepIn K (.ref a.f_law_pool) = true
  F_law_draw : Fun K "_law_draw" "_law_draw" s_law_draw a.f_law_draw a.d_law_draw
  g__law_draw : mg "_law_draw" = some (.ref a.f_law_draw)
  k__law_draw : PySem.W.keepIn K (.ref a.f_law_draw) = true
  F_law_words : Fun K "_law_words" "_law_words" s_law_words a.f_law_words a.d_law_words
  g__law_words : mg "_law_words" = some (.ref a.f_law_words)
  k__law_words : PySem.W.keepIn K (.ref a.f_law_words) = true
  F_law_far : Fun K "_law_far" "_law_far" s_law_far a.f_law_far a.d_law_far
  g__law_far : mg "_law_far" = some (.ref a.f_law_far)
  k__law_far : PySem.W.keepIn K (.ref a.f_law_far) = true
  F_law_rides : Fun K "_law_rides" "_law_rides" s_law_rides a.f_law_rides a.d_law_rides
  g__law_rides : mg "_law_rides" = some (.ref a.f_law_rides)
  k__law_rides : PySem.W.keepIn K (.ref a.f_law_rides) = true
  F_law_less : Fun K "_law_less" "_law_less" s_law_less a.f_law_less a.d_law_less
  g__law_less : mg "_law_less" = some (.ref a.f_law_less)
  k__law_less : PySem.W.keepIn K (.ref a.f_law_less) = true
  F_law_right : Fun K "_law_right" "_law_right" s_law_right a.f_law_right a.d_law_right
  g__law_right : mg "_law_right" = some (.ref a.f_law_right)
  k__law_right : PySem.W.keepIn K (.ref a.f_law_right) = true
  F_law : Fun K "law" "law" s_law a.f_law a.d_law
  g_law : mg "law" = some (.ref a.f_law)
  k_law : PySem.W.keepIn K (.ref a.f_law) = true
  v_LETTERS : ∃ u, mg "LETTERS" = some u ∧ RelV (.str ("abcdefghijklmnopqrstuvwxyz" : Str)) u
  v_LONGEST_NAME : ∃ u, mg "LONGEST_NAME" = some u ∧ RelV (.int 8) u
  v_MAX_SEATS : ∃ u, mg "MAX_SEATS" = some u ∧ RelV (.int 20) u
  v_MAX_TRIPS : ∃ u, mg "MAX_TRIPS" = some u ∧ RelV (.int 24) u
  b_abs : mg "abs" = none
  b_all : mg "all" = none
  b_bool : mg "bool" = none
  b_divmod : mg "divmod" = none
  b_enumerate : mg "enumerate" = none
  b_int : mg "int" = none
  b_isinstance : mg "isinstance" = none
  b_len : mg "len" = none
  b_max : mg "max" = none
  b_min : mg "min" = none
  b_range : mg "range" = none
  b_reversed : mg "reversed" = none
  b_sorted : mg "sorted" = none
  b_str : mg "str" = none
  b_tuple : mg "tuple" = none
  b_zip : mg "zip" = none
section
variable {P : Program} {w : World} {K : PySem.W.Frag} {mg : Str → Option Value} {base : Heap} {a : Ad}
abbrev TT (a : Ad) : List (Addr × Str) := [(a.tL, ("Line.__init__.<locals>.<lambda>" : Str))]
theorem bd_is_integer (t : Tx K mg a) : Binds K a.d_is_integer [("thing" : Str)] [] := t.F_is_integer.binds fun _ _ _ _ _ _ us hl => match us, hl with | [_], _ => rfl
theorem ok_is_integer (t : Tx K mg a) (tb : LamX.TabB base mg a.cL a.tL) : FnOk P w K mg base CX0 1 a.f_is_integer a.d_is_integer [("thing" : Str)] (upSp K (TT a) (sp_is_integer K a.CLine)) :=
  okP t.F_is_integer sc_is_integer (fun _ _ h => len_is_integer h) (by decide) fun cdv A outer s H E hr => ⟨ts_is_integer K a.CLine, zs_one (z_ret (z_and (z_callB zc_isi (by rfl) t.b_isinstance (by decide +kernel) (za_cons (zv 0) (za_cons (z_ty (by rfl) t.b_int (by decide +kernel)) (za_nil)))) (z_one (z_not (z_callB zc_isi (by rfl) t.b_isinstance (by decide +kernel) (za_cons (zv 0) (za_cons (z_ty (by rfl) t.b_bool (by decide +kernel)) (za_nil)))))))), fun _ _ h => rd_is_integer h⟩
theorem bd_is_station (t : Tx K mg a) : Binds K a.d_is_station [("thing" : Str)] [] := t.F_is_station.binds fun _ _ _ _ _ _ us hl => match us, hl with | [_], _ => rfl
theorem ok_is_station (t : Tx K mg a) (tb : LamX.TabB base mg a.cL a.tL) : FnOk P w K mg base CX0 2 a.f_is_station a.d_is_station [("thing" : Str)] (upSp K (TT a) (sp_is_station K a.CLine)) :=
  okP t.F_is_station sc_is_station (fun _ _ h => len_is_station h) (by decide) fun cdv A outer s H E hr => ⟨ts_is_station K a.CLine, zs_one (z_ret (z_and (z_call (ok_is_integer t tb) (hr.mono (by decide)) (by rfl) t.g_is_integer t.k_is_integer (bd_is_integer t) .nil (fun _ _ => .nil) (za_cons (zv 0) (za_nil))) (z_one (z_cmp zo_ge (zv 0) (z_int))))), fun _ _ h => rd_is_station h⟩
theorem bd_is_later (t : Tx K mg a) : Binds K a.d_is_later [("thing" : Str), ("start" : Str)] [] := t.F_is_later.binds fun _ _ _ _ _ _ us hl => match us, hl with | [_, _], _ => rfl
theorem ok_is_later (t : Tx K mg a) (tb : LamX.TabB base mg a.cL a.tL) : FnOk P w K mg base CX0 2 a.f_is_later a.d_is_later [("thing" : Str), ("start" : Str)] (upSp K (TT a) (sp_is_later K a.CLine)) :=
  okP t.F_is_later sc_is_later (fun _ _ h => len_is_later h) (by decide) fun cdv A outer s H E hr => ⟨ts_is_later K a.CLine, zs_one (z_ret (z_and (z_call (ok_is_integer t tb) (hr.mono (by decide)) (by rfl) t.g_is_integer t.k_is_integer (bd_is_integer t) .nil (fun _ _ => .nil) (za_cons (zv 0) (za_nil))) (z_one (z_cmp zo_gt (zv 0) (zv 1))))), fun _ _ h => rd_is_later h⟩
theorem bd_is_trip_name (t : Tx K mg a) : Binds K a.d_is_trip_name [("thing" : Str)] [] := t.F_is_trip_name.binds fun _ _ _ _ _ _ us hl => match us, hl with | [_], _ => rfl
theorem ok_is_trip_name (t : Tx K mg a) (tb : LamX.TabB base mg a.cL a.tL) : FnOk P w K mg base CX0 1 a.f_is_trip_name a.d_is_trip_name [("thing" : Str)] (upSp K (TT a) (sp_is_trip_name K a.CLine)) :=
  okP t.F_is_trip_name sc_is_trip_name (fun _ _ h => len_is_trip_name h) (by decide) fun cdv A outer s H E hr => ⟨ts_is_trip_name K a.CLine, zs_cons (z_if ((zw_or (zt_not (zt_val (z_callB zc_isi (by rfl) t.b_isinstance (by decide +kernel) (za_cons (zv 0) (za_cons (z_ty (by rfl) t.b_str (by decide +kernel)) (za_nil)))))) (zw_or1 (zt_not (zt_chain zo_le zo_le (z_int) (z_callB zc_len (by rfl) t.b_len (by decide +kernel) (za_cons (zv 0) (za_nil))) (z_gi (by rfl) t.v_LONGEST_NAME))))).pt) (zs_one (z_ret (z_bl))) (zs_nil)) (zs_one (z_ret (z_callB (zc_all rfl) (by rfl) t.b_all (by decide +kernel) (za_cons (z_val (zf_lc (own := [(("letter" : Str), 1)]) (pe_lc (own := [(("letter" : Str), 1)]) rfl sc_is_trip_name.nd (zi_str (zv 0)) (blkOk_by (own := [(("letter" : Str), 1)]) (N := N_is_trip_name) (sc := defScope s_is_trip_name) (by decide +kernel)) (fun _ _ _ _ _ => zgw_name (by decide) (pg_name (i := 1) sc_is_trip_name.nd rfl (Or.inl rfl))) (fun _ _ _ _ _ => zts_nil) (fun _ _ _ _ _ => z_cmp zo_in (zv 1) (z_gs (by rfl) t.v_LETTERS))))) (za_nil))))), fun _ _ h => rd_is_trip_name h⟩
theorem bd_is_trip (t : Tx K mg a) : Binds K a.d_is_trip [("thing" : Str)] [] := t.F_is_trip.binds fun _ _ _ _ _ _ us hl => match us, hl with | [_], _ => rfl
theorem ok_is_trip (t : Tx K mg a) (tb : LamX.TabB base mg a.cL a.tL) : FnOk P w K mg base CX0 3 a.f_is_trip a.d_is_trip [("thing" : Str)] (upSp K (TT a) (sp_is_trip K a.CLine)) :=
  okP t.F_is_trip sc_is_trip (fun _ _ h => len_is_trip h) (by decide) fun cdv A outer s H E hr => ⟨ts_is_trip K a.CLine, zs_cons (z_if ((zw_or (zt_not (zt_val (z_callB zc_isi (by rfl) t.b_isinstance (by decide +kernel) (za_cons (zv 0) (za_cons (z_ty (by rfl) t.b_tuple (by decide +kernel)) (za_nil)))))) (zw_or1 (zt_cmp (zo_ne hr.units) (z_callB zc_len (by rfl) t.b_len (by decide +kernel) (za_cons (zv 0) (za_nil))) (z_int)))).pt) (zs_one (z_ret (z_bl))) (zs_nil)) (zs_cons (z_asg (zv 0) (zg_tup (pg_tup rfl (zgs_cons1 (zg_name (i := 1) sc_is_trip.nd rfl (Or.inl rfl)) (zgs_cons1 (zg_name (i := 2) sc_is_trip.nd rfl (Or.inl rfl)) (zgs_cons1 (zg_name (i := 3) sc_is_trip.nd rfl (Or.inl rfl)) (zgs_nil))))))) (zs_one (z_ret (z_and (z_call (ok_is_trip_name t tb) (hr.mono (by decide)) (by rfl) t.g_is_trip_name t.k_is_trip_name (bd_is_trip_name t) .nil (fun _ _ => .nil) (za_cons (zv 1) (za_nil))) (z_and (z_call (ok_is_station t tb) (hr.mono (by decide)) (by rfl) t.g_is_station t.k_is_station (bd_is_station t) .nil (fun _ _ => .nil) (za_cons (zv 2) (za_nil))) (z_one (z_call (ok_is_later t tb) (hr.mono (by decide)) (by rfl) t.g_is_later t.k_is_later (bd_is_later t) .nil (fun _ _ => .nil) (za_cons (zv 3) (za_cons (zv 2) (za_nil)))))))))), fun _ _ h => rd_is_trip h⟩
theorem bd_is_pair (t : Tx K mg a) : Binds K a.d_is_pair [("thing" : Str)] [] := t.F_is_pair.binds fun _ _ _ _ _ _ us hl => match us, hl with | [_], _ => rfl
theorem ok_is_pair (t : Tx K mg a) (tb : LamX.TabB base mg a.cL a.tL) : FnOk P w K mg base CX0 1 a.f_is_pair a.d_is_pair [("thing" : Str)] (upSp K (TT a) (sp_is_pair K a.CLine)) :=
  okP t.F_is_pair sc_is_pair (fun _ _ h => len_is_pair h) (by decide) fun cdv A outer s H E hr => ⟨ts_is_pair K a.CLine, zs_one (z_ret (z_and (z_callB zc_isi (by rfl) t.b_isinstance (by decide +kernel) (za_cons (zv 0) (za_cons (z_ty (by rfl) t.b_tuple (by decide +kernel)) (za_nil)))) (z_one (z_cmp zo_eqI (z_callB zc_len (by rfl) t.b_len (by decide +kernel) (za_cons (zv 0) (za_nil))) (z_int))))), fun _ _ h => rd_is_pair h⟩
theorem bd_is_seat (t : Tx K mg a) : Binds K a.d_is_seat [("thing" : Str), ("seats" : Str)] [] := t.F_is_seat.binds fun _ _ _ _ _ _ us hl => match us, hl with | [_, _], _ => rfl
theorem ok_is_seat (t : Tx K mg a) (tb : LamX.TabB base mg a.cL a.tL) : FnOk P w K mg base CX0 2 a.f_is_seat a.d_is_seat [("thing" : Str), ("seats" : Str)] (upSp K (TT a) (sp_is_seat K a.CLine)) :=
  okP t.F_is_seat sc_is_seat (fun _ _ h => len_is_seat h) (by decide) fun cdv A outer s H E hr => ⟨ts_is_seat K a.CLine, zs_one (z_ret (z_and (z_call (ok_is_integer t tb) (hr.mono (by decide)) (by rfl) t.g_is_integer t.k_is_integer (bd_is_integer t) .nil (fun _ _ => .nil) (za_cons (zv 0) (za_nil))) (z_one (z_chain1 zo_le zo_le (z_int) (zv 0) (zv 1))))), fun _ _ h => rd_is_seat h⟩
theorem bd_check_seats (t : Tx K mg a) : Binds K a.d_check_seats [("seats" : Str)] [] := t.F_check_seats.binds fun _ _ _ _ _ _ us hl => match us, hl with | [_], _ => rfl
theorem ok_check_seats (t : Tx K mg a) (tb : LamX.TabB base mg a.cL a.tL) : FnOk P w K mg base CX0 2 a.f_check_seats a.d_check_seats [("seats" : Str)] (upSp K (TT a) (sp_check_seats K a.CLine)) :=
  okP t.F_check_seats sc_check_seats (fun _ _ h => len_check_seats h) (by decide) fun cdv A outer s H E hr => ⟨ts_check_seats K a.CLine, zs_one (z_if ((zw_or (zt_not (zt_val (z_call (ok_is_integer t tb) (hr.mono (by decide)) (by rfl) t.g_is_integer t.k_is_integer (bd_is_integer t) .nil (fun _ _ => .nil) (za_cons (zv 0) (za_nil))))) (zw_or1 (zt_not (zt_chain zo_le zo_le (z_int) (zv 0) (z_gi (by rfl) t.v_MAX_SEATS))))).pt) (zs_one (z_never)) (zs_nil)), fun _ _ h => rd_check_seats h⟩
theorem bd_check_stations (t : Tx K mg a) : Binds K a.d_check_stations [("start" : Str), ("end" : Str)] [] := t.F_check_stations.binds fun _ _ _ _ _ _ us hl => match us, hl with | [_, _], _ => rfl
theorem ok_check_stations (t : Tx K mg a) (tb : LamX.TabB base mg a.cL a.tL) : FnOk P w K mg base CX0 3 a.f_check_stations a.d_check_stations [("start" : Str), ("end" : Str)] (upSp K (TT a) (sp_check_stations K a.CLine)) :=
  okP t.F_check_stations sc_check_stations (fun _ _ h => len_check_stations h) (by decide) fun cdv A outer s H E hr => ⟨ts_check_stations K a.CLine, zs_cons (z_if (zt_not (zt_val (z_call (ok_is_station t tb) (hr.mono (by decide)) (by rfl) t.g_is_station t.k_is_station (bd_is_station t) .nil (fun _ _ => .nil) (za_cons (zv 0) (za_nil))))) (zs_one (z_never)) (zs_nil)) (zs_one (z_if (zt_not (zt_val (z_call (ok_is_later t tb) (hr.mono (by decide)) (by rfl) t.g_is_later t.k_is_later (bd_is_later t) .nil (fun _ _ => .nil) (za_cons (zv 1) (za_cons (zv 0) (za_nil)))))) (zs_one (z_never)) (zs_nil))), fun _ _ h => rd_check_stations h⟩
theorem bd_valid_beginning (t : Tx K mg a) : Binds K a.d_valid_beginning [("trips" : Str)] [] := t.F_valid_beginning.binds fun _ _ _ _ _ _ us hl => match us, hl with | [_], _ => rfl
theorem ok_valid_beginning (t : Tx K mg a) (tb : LamX.TabB base mg a.cL a.tL) : FnOk P w K mg base CX0 4 a.f_valid_beginning a.d_valid_beginning [("trips" : Str)] (upSp K (TT a) (sp_valid_beginning K a.CLine)) :=
  okP t.F_valid_beginning sc_valid_beginning (fun _ _ h => len_valid_beginning h) (by decide) fun cdv A outer s H E hr => ⟨ts_valid_beginning K a.CLine, zs_cons (z_set (i := 1) sc_valid_beginning.nd rfl (Or.inl rfl) (z_str)) (zs_cons (z_for PassesOwn.never rfl (zi_enum1 (by rfl) t.b_enumerate (zv 0)) (zg_tup (pg_tup rfl (zgs_cons1 (zg_name (i := 2) sc_valid_beginning.nd rfl (Or.inl rfl)) (zgs_cons1 (zg_name (i := 3) sc_valid_beginning.nd rfl (Or.inl rfl)) (zgs_nil))))) (zs_cons (z_if ((zw_or (zt_cmp (zo_eq hr.units) (zv 2) (z_gi (by rfl) t.v_MAX_TRIPS)) (zw_or (zt_not (zt_val (z_call (ok_is_trip t tb) (hr.mono (by decide)) (by rfl) t.g_is_trip t.k_is_trip (bd_is_trip t) .nil (fun _ _ => .nil) (za_cons (zv 3) (za_nil))))) (zw_or1 (zt_cmp zo_le (z_ix (zv 3) (z_int)) (zv 1))))).pt) (zs_one (z_ret (zv 2))) (zs_nil)) (zs_one (z_set (i := 1) sc_valid_beginning.nd rfl (Or.inl rfl) (z_ix (zv 3) (z_int)))))) (zs_one (z_ret (z_callB zc_len (by rfl) t.b_len (by decide +kernel) (za_cons (zv 0) (za_nil)))))), fun _ _ h => rd_valid_beginning h⟩
theorem bd_load_of (t : Tx K mg a) : Binds K a.d_load_of [("trips" : Str), ("station" : Str)] [] := t.F_load_of.binds fun _ _ _ _ _ _ us hl => match us, hl with | [_, _], _ => rfl
theorem ok_load_of (t : Tx K mg a) (tb : LamX.TabB base mg a.cL a.tL) : FnOk P w K mg base CX0 1 a.f_load_of a.d_load_of [("trips" : Str), ("station" : Str)] (upSp K (TT a) (sp_load_of K a.CLine)) :=
  okP t.F_load_of sc_load_of (fun _ _ h => len_load_of h) (by decide) fun cdv A outer s H E hr => ⟨ts_load_of K a.CLine, zs_one (z_ret (z_callB zc_len (by rfl) t.b_len (by decide +kernel) (za_cons (z_val (zf_lc (own := [(("name" : Str), 2), (("start" : Str), 3), (("end" : Str), 4)]) (pe_lc (own := [(("name" : Str), 2), (("start" : Str), 3), (("end" : Str), 4)]) rfl sc_load_of.nd (zi_tup (zv 0)) (blkOk_by (own := [(("name" : Str), 2), (("start" : Str), 3), (("end" : Str), 4)]) (N := N_load_of) (sc := defScope s_load_of) (by decide +kernel)) (fun _ _ _ _ _ => zgw_tup (pg_tup rfl (zgsw_cons (pgs_cons (zgw_name (by decide) (pg_name (i := 2) sc_load_of.nd rfl (Or.inl rfl))) (zgsw_cons (pgs_cons (zgw_name (by decide) (pg_name (i := 3) sc_load_of.nd rfl (Or.inl rfl))) (zgsw_cons (pgs_cons (zgw_name (by decide) (pg_name (i := 4) sc_load_of.nd rfl (Or.inl rfl))) (zgsw_nil))))))))) (fun _ _ _ _ _ => zts_one (zt_chain zo_le zo_lt (zv 3) (zv 1) (zv 4))) (fun _ _ _ _ _ => zv 2)))) (za_nil)))), fun _ _ h => rd_load_of h⟩
theorem bd_trip_named (t : Tx K mg a) : Binds K a.d_trip_named [("trips" : Str), ("name" : Str)] [] := t.F_trip_named.binds fun _ _ _ _ _ _ us hl => match us, hl with | [_, _], _ => rfl
theorem ok_trip_named (t : Tx K mg a) (tb : LamX.TabB base mg a.cL a.tL) : FnOk P w K mg base CX0 1 a.f_trip_named a.d_trip_named [("trips" : Str), ("name" : Str)] (upSp K (TT a) (sp_trip_named K a.CLine)) :=
  okP t.F_trip_named sc_trip_named (fun _ _ h => len_trip_named h) (by decide) fun cdv A outer s H E hr => ⟨ts_trip_named K a.CLine, zs_cons (z_if (zt_not (zt_val (z_callB zc_isi (by rfl) t.b_isinstance (by decide +kernel) (za_cons (zv 1) (za_cons (z_ty (by rfl) t.b_str (by decide +kernel)) (za_nil)))))) (zs_one (z_ret (z_non))) (zs_nil)) (zs_cons (z_for PassesOwn.never rfl (zi_tup (zv 0)) (zg_name (i := 2) sc_trip_named.nd rfl (Or.inl rfl)) (zs_one (z_if (zt_cmp zo_eqI (z_ix (zv 2) (z_int)) (zv 1)) (zs_one (z_ret (zv 2))) (zs_nil)))) (zs_one (z_ret (z_non)))), fun _ _ h => rd_trip_named h⟩
theorem bd_Line_capacity (t : Tx K mg a) : Binds K a.d_Line_capacity [("self" : Str)] [] := t.F_Line_capacity.binds fun _ _ _ _ _ _ us hl => match us, hl with | [_], _ => rfl
theorem ok_Line_capacity (t : Tx K mg a) (tb : LamX.TabB base mg a.cL a.tL) : FnOk P w K mg base CX0 1 a.f_Line_capacity a.d_Line_capacity [("self" : Str)] (upSp K (TT a) (sp_Line_capacity K a.CLine)) :=
  okP t.F_Line_capacity sc_Line_capacity (fun _ _ h => len_Line_capacity h) (by decide) fun cdv A outer s H E hr => ⟨ts_Line_capacity K a.CLine, zs_one (z_ret (z_fld t.cl t.n_seat_count (zv 0))), fun _ _ h => rd_Line_capacity h⟩
theorem bd_Line_trips (t : Tx K mg a) : Binds K a.d_Line_trips [("self" : Str)] [] := t.F_Line_trips.binds fun _ _ _ _ _ _ us hl => match us, hl with | [_], _ => rfl
theorem ok_Line_trips (t : Tx K mg a) (tb : LamX.TabB base mg a.cL a.tL) : FnOk P w K mg base CX0 1 a.f_Line_trips a.d_Line_trips [("self" : Str)] (upSp K (TT a) (sp_Line_trips K a.CLine)) :=
  okP t.F_Line_trips sc_Line_trips (fun _ _ h => len_Line_trips h) (by decide) fun cdv A outer s H E hr => ⟨ts_Line_trips K a.CLine, zs_one (z_ret (z_fld t.cl t.n_rows (zv 0))), fun _ _ h => rd_Line_trips h⟩
theorem bd_Line_load (t : Tx K mg a) : Binds K a.d_Line_load [("self" : Str), ("station" : Str)] [] := t.F_Line_load.binds fun _ _ _ _ _ _ us hl => match us, hl with | [_, _], _ => rfl
theorem ok_Line_load (t : Tx K mg a) (tb : LamX.TabB base mg a.cL a.tL) : FnOk P w K mg base CX0 3 a.f_Line_load a.d_Line_load [("self" : Str), ("station" : Str)] (upSp K (TT a) (sp_Line_load K a.CLine)) :=
  okP t.F_Line_load sc_Line_load (fun _ _ h => len_Line_load h) (by decide) fun cdv A outer s H E hr => ⟨ts_Line_load K a.CLine, zs_cons (z_if (zt_not (zt_val (z_call (ok_is_station t tb) (hr.mono (by decide)) (by rfl) t.g_is_station t.k_is_station (bd_is_station t) .nil (fun _ _ => .nil) (za_cons (zv 1) (za_nil))))) (zs_one (z_never)) (zs_nil)) (zs_one (z_ret (z_call (ok_load_of t tb) (hr.mono (by decide)) (by rfl) t.g_load_of t.k_load_of (bd_load_of t) .nil (fun _ _ => .nil) (za_cons (z_fld t.cl t.n_rows (zv 0)) (za_cons (zv 1) (za_nil)))))), fun _ _ h => rd_Line_load h⟩
theorem bd_Line_walk (t : Tx K mg a) : Binds K a.d_Line_walk [("self" : Str)] [] := t.F_Line_walk.binds fun _ _ _ _ _ _ us hl => match us, hl with | [_], _ => rfl
theorem wfn_Line_walk (t : Tx K mg a) : WFn P w K mg base 1 a.f_Line_walk a.d_Line_walk "queue" := wfn_of t.F_Line_walk sc_Line_walk 0 rfl rfl rfl (fun _ _ => rfl) (fun _ _ => rfl)
theorem gfn_Line_walk (t : Tx K mg a) : GFn P w K mg base 1 a.f_Line_walk a.d_Line_walk [("self" : Str)] (spField K a.CLine "queue") :=
  gfn_walk t.F_Line_walk sc_Line_walk t.cl t.n_queue 0 fun cdv A outer s H E pn => gss_cons (gs_for owns_gcx rfl (pi_tup (pe_fld (pv 0) (by rfl))) (pg_name (i := 1) sc_Line_walk.nd rfl (Or.inl rfl)) (gss_cons (gs_yield (pv 1)) gss_nil)) gss_nil
theorem bd_Line_len (t : Tx K mg a) : Binds K a.d_Line_len [("self" : Str)] [] := t.F_Line_len.binds fun _ _ _ _ _ _ us hl => match us, hl with | [_], _ => rfl
theorem ok_Line_len (t : Tx K mg a) (tb : LamX.TabB base mg a.cL a.tL) : FnOk P w K mg base CX0 1 a.f_Line_len a.d_Line_len [("self" : Str)] (upSp K (TT a) (sp_Line_len K a.CLine)) :=
  okP t.F_Line_len sc_Line_len (fun _ _ h => len_Line_len h) (by decide) fun cdv A outer s H E hr => ⟨ts_Line_len K a.CLine, zs_one (z_ret (z_callB zc_len (by rfl) t.b_len (by decide +kernel) (za_cons (z_fld t.cl t.n_rows (zv 0)) (za_nil)))), fun _ _ h => rd_Line_len h⟩
theorem bd_Line_str (t : Tx K mg a) : Binds K a.d_Line_str [("self" : Str)] [] := t.F_Line_str.binds fun _ _ _ _ _ _ us hl => match us, hl with | [_], _ => rfl
theorem ok_Line_str (t : Tx K mg a) (tb : LamX.TabB base mg a.cL a.tL) : FnOk P w K mg base CX0 1 a.f_Line_str a.d_Line_str [("self" : Str)] (upSp K (TT a) (sp_Line_str K a.CLine)) :=
  okP t.F_Line_str sc_Line_str (fun _ _ h => len_Line_str h) (by decide) fun cdv A outer s H E hr => ⟨ts_Line_str K a.CLine, zs_cons (z_setLc (own := [(("name" : Str), 2), (("start" : Str), 3), (("end" : Str), 4)]) (i := 1) (ps_setLc (own := [(("name" : Str), 2), (("start" : Str), 3), (("end" : Str), 4)]) rfl sc_Line_str.nd (i := 1) rfl rfl rfl (zi_tup (z_fld t.cl t.n_rows (zv 0))) (blkOk_by (own := [(("name" : Str), 2), (("start" : Str), 3), (("end" : Str), 4)]) (N := N_Line_str) (sc := defScope s_Line_str) (by decide +kernel)) (fun _ _ _ _ _ => zgw_tup (pg_tup rfl (zgsw_cons (pgs_cons (zgw_name (by decide) (pg_name (i := 2) sc_Line_str.nd rfl (Or.inl rfl))) (zgsw_cons (pgs_cons (zgw_name (by decide) (pg_name (i := 3) sc_Line_str.nd rfl (Or.inl rfl))) (zgsw_cons (pgs_cons (zgw_name (by decide) (pg_name (i := 4) sc_Line_str.nd rfl (Or.inl rfl))) (zgsw_nil))))))))) (fun _ _ _ _ _ => zts_nil) (fun _ _ _ _ _ => z_js (ts := [tFmtP (tVarP 2), tConP (.str (":" : Str)), tFmtP (tVarP 3), tConP (.str ("-" : Str)), tFmtP (tVarP 4)]) (.cons (z_fmt (zv 2)) (.cons (z_str) (.cons (z_fmt (zv 3)) (.cons (z_str) (.cons (z_fmt (zv 4)) (.nil))))))))) (zs_one (z_ret (z_join rfl (pe_join (z_str) (z_lst (za_cons (z_callTy zc_str (by rfl) t.b_str (by decide +kernel) (za_cons (z_fld t.cl t.n_seat_count (zv 0)) (za_nil))) (za_star (zv 1) (za_nil)))))))), fun _ _ h => rd_Line_str h⟩
theorem bd_Line_init (t : Tx K mg a) : Binds K a.d_Line_init [("self" : Str), ("seats" : Str), ("trips" : Str)] [] := t.F_Line_init.b0 (by simp) fun T kV doc pm an cdv ct us its h1 h2 => match us, its, h1, h2 with | [_, _, _], [_], _, _ => ⟨_, rfl, rfl⟩
theorem b1_Line_init (t : Tx K mg a) : ∃ ds, Vals [.ref a.eL] ds ∧ Binds K a.d_Line_init [("self" : Str), ("seats" : Str), ("trips" : Str)] ds := t.F_Line_init.d.binds1 2 0 (by simp) rfl fun T kV doc pm an cdv ct us its h1 h2 => match us, its, h1, h2 with | [_, _], [_], _, _ => ⟨_, rfl, rfl⟩
theorem ok_Line_init (t : Tx K mg a) (tb : LamX.TabB base mg a.cL a.tL) : FnOk P w K mg base CX0 5 a.f_Line_init a.d_Line_init [("self" : Str), ("seats" : Str), ("trips" : Str)] (upSpR K (TT a) (sp_Line_init K a.CLine)) :=
  okRX (nm := ("self" : Str)) (N := [("seats" : Str), ("trips" : Str), ("valid" : Str)]) (ps := [("seats" : Str), ("trips" : Str)]) t.F_Line_init sc_Line_init (fun _ _ _ h => len_Line_init h) (by decide) fun A outer s H E hr => ⟨ts_Line_init K a.CLine, zs_cons (z_expr (z_call (ok_check_seats t tb) (hr.mono (by decide)) (by rfl) t.g_check_seats t.k_check_seats (bd_check_seats t) .nil (fun _ _ => .nil) (za_cons (zv 1) (za_nil)))) (zs_cons (z_if (zt_not (zt_val (z_callB zc_isi (by rfl) t.b_isinstance (by decide +kernel) (za_cons (zv 2) (za_cons (z_ty (by rfl) t.b_tuple (by decide +kernel)) (za_nil)))))) (zs_one (z_never)) (zs_nil)) (zs_cons (z_set (i := 3) sc_Line_init.nd rfl (Or.inl rfl) (z_call (ok_valid_beginning t tb) (hr.mono (by decide)) (by rfl) t.g_valid_beginning t.k_valid_beginning (bd_valid_beginning t) .nil (fun _ _ => .nil) (za_cons (zv 2) (za_nil)))) (zs_cons (z_if (zt_cmp zo_lt (zv 3) (z_callB zc_len (by rfl) t.b_len (by decide +kernel) (za_cons (zv 2) (za_nil)))) (zs_one (z_never)) (zs_nil)) (zs_cons (z_fldS t.cl t.n_seat_count (pv 0) (zv 1)) (zs_cons (z_fldS t.cl t.n_rows (pv 0) (zv 2)) (zs_one (z_fldS t.cl t.n_queue (pv 0) (z_callTy zc_tuple (by rfl) t.b_tuple (by decide +kernel) (za_cons (z_sortL (x := Str.empty) (i := 1) (j := 0) (nm := ("row" : Str)) (by rfl) t.b_sorted (zv 2) hr ⟨rfl, rfl, rfl, rfl, by decide +kernel⟩ rfl tb rfl (List.mem_singleton.mpr rfl) (fun p hp _ => by rw [List.mem_singleton.mp hp]; rfl) (by decide +kernel) rfl (fun _ _ _ _ _ => rfl) ⟨by decide, by decide⟩ ⟨by decide, by decide⟩ (by decide)) (za_nil)))))))))), fun _ _ _ h => rd_Line_init h⟩
theorem bd_Line_eq (t : Tx K mg a) : Binds K a.d_Line_eq [("self" : Str), ("other" : Str)] [] := t.F_Line_eq.binds fun _ _ _ _ _ _ us hl => match us, hl with | [_, _], _ => rfl
theorem ok_Line_eq (t : Tx K mg a) (tb : LamX.TabB base mg a.cL a.tL) : FnOk P w K mg base CX0 7 a.f_Line_eq a.d_Line_eq [("self" : Str), ("other" : Str)] (upSp K (TT a) (sp_Line_eq K a.CLine)) :=
  okP t.F_Line_eq sc_Line_eq (fun _ _ h => len_Line_eq h) (by decide) fun cdv A outer s H E hr => ⟨ts_Line_eq K a.CLine, zs_one (z_ret (z_and (z_callB zc_isi (by rfl) t.b_isinstance (by decide +kernel) (za_cons (zv 1) (za_cons (z_gc (by rfl) t.g_Line) (za_nil)))) (z_and (z_cmp (zo_eq hr.units) (z_fld t.cl t.n_seat_count (zv 0)) (z_fld t.cl t.n_seat_count (zv 1))) (z_one (z_cmp (zo_eq hr.units) (z_fld t.cl t.n_rows (zv 0)) (z_fld t.cl t.n_rows (zv 1))))))), fun _ _ h => rd_Line_eq h⟩
theorem bd_Line_added (t : Tx K mg a) : Binds K a.d_Line_added [("self" : Str), ("name" : Str), ("start" : Str), ("end" : Str)] [] := t.F_Line_added.binds fun _ _ _ _ _ _ us hl => match us, hl with | [_, _, _, _], _ => rfl
theorem ok_Line_added (t : Tx K mg a) (tb : LamX.TabB base mg a.cL a.tL) : FnOk P w K mg base CX0 7 a.f_Line_added a.d_Line_added [("self" : Str), ("name" : Str), ("start" : Str), ("end" : Str)] (upSp K (TT a) (sp_Line_added K a.CLine)) :=
  okP t.F_Line_added sc_Line_added (fun _ _ h => len_Line_added h) (by decide) fun cdv A outer s H E hr => ⟨ts_Line_added K a.CLine, zs_cons (z_if (zt_not (zt_val (z_call (ok_is_trip_name t tb) (hr.mono (by decide)) (by rfl) t.g_is_trip_name t.k_is_trip_name (bd_is_trip_name t) .nil (fun _ _ => .nil) (za_cons (zv 1) (za_nil))))) (zs_one (z_never)) (zs_nil)) (zs_cons (z_expr (z_call (ok_check_stations t tb) (hr.mono (by decide)) (by rfl) t.g_check_stations t.k_check_stations (bd_check_stations t) .nil (fun _ _ => .nil) (za_cons (zv 2) (za_cons (zv 3) (za_nil))))) (zs_cons (z_if (zt_cmp zo_isnot (z_call (ok_trip_named t tb) (hr.mono (by decide)) (by rfl) t.g_trip_named t.k_trip_named (bd_trip_named t) .nil (fun _ _ => .nil) (za_cons (z_fld t.cl t.n_rows (zv 0)) (za_cons (zv 1) (za_nil)))) (z_non)) (zs_one (z_never)) (zs_nil)) (zs_cons (z_if (zt_cmp zo_eqI (z_callB zc_len (by rfl) t.b_len (by decide +kernel) (za_cons (z_fld t.cl t.n_rows (zv 0)) (za_nil))) (z_gi (by rfl) t.v_MAX_TRIPS)) (zs_one (z_never)) (zs_nil)) (zs_one (z_ret (z_new t.mkL (ok_Line_init t tb) (hr.mono (by decide)) (by rfl) t.g_Line (bd_Line_init t) .nil (fun _ _ => .nil) (za_cons (z_fld t.cl t.n_seat_count (zv 0)) (za_cons (z_callTy zc_tuple (by rfl) t.b_tuple (by decide +kernel) (za_cons (z_callB (zc_sorted hr.units) (by rfl) t.b_sorted (by decide +kernel) (za_cons (z_lst (za_star (z_fld t.cl t.n_rows (zv 0)) (za_cons (z_tup (za_cons (zv 1) (za_cons (zv 2) (za_cons (zv 3) (za_nil))))) (za_nil)))) (za_nil))) (za_nil))) (za_nil))))))))), fun _ _ h => rd_Line_added h⟩
theorem ok_Line_without (t : Tx K mg a) (tb : LamX.TabB base mg a.cL a.tL) : FnR P w K mg base CX0 7 a.f_Line_without (upSpV K (TT a) (sp_Line_without K a.CLine)) :=
  okV t.F_Line_without sc_Line_without (fun _ _ h => len_Line_without h) (by decide) (bindV5 t.F_Line_without fun _ _ _ _ _ _ => ⟨fun _ => rfl, fun _ _ => rfl, fun _ _ _ => rfl, fun _ _ _ _ => rfl, fun _ _ _ _ _ => rfl, fun _ _ _ _ _ _ => rfl⟩) fun cdv A outer s H E hr => ⟨ts_Line_without K a.CLine, zs_cons (z_for PassesOwn.never rfl (zi_tup (zv 1)) (zg_name (i := 2) sc_Line_without.nd rfl (Or.inl rfl)) (zs_one (z_if (zt_cmp zo_is (z_call (ok_trip_named t tb) (hr.mono (by decide)) (by rfl) t.g_trip_named t.k_trip_named (bd_trip_named t) .nil (fun _ _ => .nil) (za_cons (z_fld t.cl t.n_rows (zv 0)) (za_cons (zv 2) (za_nil)))) (z_non)) (zs_one (z_never)) (zs_nil)))) (zs_one (z_ret (z_new t.mkL (ok_Line_init t tb) (hr.mono (by decide)) (by rfl) t.g_Line (bd_Line_init t) .nil (fun _ _ => .nil) (za_cons (z_fld t.cl t.n_seat_count (zv 0)) (za_cons (z_callTy zc_tuple (by rfl) t.b_tuple (by decide +kernel) (za_cons (z_val (zf_lc (own := [(("row" : Str), 3)]) (pe_lc (own := [(("row" : Str), 3)]) rfl sc_Line_without.nd (zi_tup (z_fld t.cl t.n_rows (zv 0))) (blkOk_by (own := [(("row" : Str), 3)]) (N := N_Line_without) (sc := defScope s_Line_without) (by decide +kernel)) (fun _ _ _ _ _ => zgw_name (by decide) (pg_name (i := 3) sc_Line_without.nd rfl (Or.inl rfl))) (fun _ _ _ _ _ => zts_one (zt_cmp zo_notInL (z_ix (zv 3) (z_int)) (zv 1))) (fun _ _ _ _ _ => zv 3)))) (za_nil))) (za_nil)))))), fun _ _ h => rd_Line_without h⟩
theorem bd_meet (t : Tx K mg a) : Binds K a.d_meet [("trip" : Str), ("other" : Str)] [] := t.F_meet.binds fun _ _ _ _ _ _ us hl => match us, hl with | [_, _], _ => rfl
theorem ok_meet (t : Tx K mg a) (tb : LamX.TabB base mg a.cL a.tL) : FnOk P w K mg base CX0 1 a.f_meet a.d_meet [("trip" : Str), ("other" : Str)] (upSp K (TT a) (sp_meet K a.CLine)) :=
  okP t.F_meet sc_meet (fun _ _ h => len_meet h) (by decide) fun cdv A outer s H E hr => ⟨ts_meet K a.CLine, zs_one (z_ret (z_and (z_cmp zo_lt (z_ix (zv 0) (z_int)) (z_ix (zv 1) (z_int))) (z_one (z_cmp zo_lt (z_ix (zv 1) (z_int)) (z_ix (zv 0) (z_int)))))), fun _ _ h => rd_meet h⟩
theorem bd_seats_left (t : Tx K mg a) : Binds K a.d_seats_left [("seats" : Str), ("trip" : Str), ("seated" : Str)] [] := t.F_seats_left.binds fun _ _ _ _ _ _ us hl => match us, hl with | [_, _, _], _ => rfl
theorem ok_seats_left (t : Tx K mg a) (tb : LamX.TabB base mg a.cL a.tL) : FnOk P w K mg base CX0 2 a.f_seats_left a.d_seats_left [("seats" : Str), ("trip" : Str), ("seated" : Str)] (upSpF K (TT a) (sp_seats_left K a.CLine)) :=
  okF t.F_seats_left sc_seats_left (fun _ _ h => len_seats_left h) (by decide) fun cdv A outer s H E hr => ⟨ts_seats_left K a.CLine, zsf_cons (z_set (i := 3) sc_seats_left.nd rfl (Or.inr rfl) (z_val (zf_lc (own := [(("other" : Str), 4), (("seat" : Str), 5)]) (pe_lc (own := [(("other" : Str), 4), (("seat" : Str), 5)]) rfl sc_seats_left.nd (zi_list (zv 2)) (blkOk_by (own := [(("other" : Str), 4), (("seat" : Str), 5)]) (N := N_seats_left) (sc := defScope s_seats_left) (by decide +kernel)) (fun _ _ _ _ _ => zgw_tup (pg_tup rfl (zgsw_cons (pgs_cons (zgw_name (by decide) (pg_name (i := 4) sc_seats_left.nd rfl (Or.inl rfl))) (zgsw_cons (pgs_cons (zgw_name (by decide) (pg_name (i := 5) sc_seats_left.nd rfl (Or.inl rfl))) (zgsw_nil))))))) (fun _ _ _ _ _ => zts_one (zt_val (z_call (ok_meet t tb) (hr.mono (by decide)) (by rfl) t.g_meet t.k_meet (bd_meet t) .nil (fun _ _ => .nil) (za_cons (zv 1) (za_cons (zv 4) (za_nil)))))) (fun _ _ _ _ _ => zv 5))))) (zsf_ret (zf_lc (own := [(("seat" : Str), 5)]) (pe_lc (own := [(("seat" : Str), 5)]) rfl sc_seats_left.nd (zi_range2 (by rfl) t.b_range (z_int) (z_op zo_add (zv 0) (z_int)) rfl rfl (pi_range2 (by rfl) t.b_range (pa_cons (z_int) (pa_cons (z_op zo_add (zv 0) (z_int)) pa_nil)))) (blkOk_by (own := [(("seat" : Str), 5)]) (N := N_seats_left) (sc := defScope s_seats_left) (by decide +kernel)) (fun _ _ _ _ _ => zgw_name (by decide) (pg_name (i := 5) sc_seats_left.nd rfl (Or.inl rfl))) (fun _ _ _ _ _ => zts_one (zt_cmp zo_notInL (zv 5) (zv 3))) (fun _ _ _ _ _ => zv 5)))), fun _ _ h => rd_seats_left h⟩
theorem bd_plan_of (t : Tx K mg a) : Binds K a.d_plan_of [("seated" : Str)] [] := t.F_plan_of.binds fun _ _ _ _ _ _ us hl => match us, hl with | [_], _ => rfl
theorem ok_plan_of (t : Tx K mg a) (tb : LamX.TabB base mg a.cL a.tL) : FnOk P w K mg base CX0 1 a.f_plan_of a.d_plan_of [("seated" : Str)] (upSpR K (TT a) (sp_plan_of K a.CLine)) :=
  okR (nm := ("seated" : Str)) (N := [("trip" : Str), ("seat" : Str)]) (ps := []) t.F_plan_of sc_plan_of (fun _ _ _ h => len_plan_of h) (by decide) fun cdv A outer s H E hr => ⟨ts_plan_of K a.CLine, zs_one (z_ret (z_callTy zc_tuple (by rfl) t.b_tuple (by decide +kernel) (za_cons (z_callB (zc_sorted hr.units) (by rfl) t.b_sorted (by decide +kernel) (za_cons (z_val (zf_lcO (i := 0) (own := [(("trip" : Str), 1), (("seat" : Str), 2)]) (pe_lc (own := [(("trip" : Str), 1), (("seat" : Str), 2)]) rfl sc_plan_of.nd (pi_list (pv 0)) (blkOk_by (own := [(("trip" : Str), 1), (("seat" : Str), 2)]) (N := N_plan_of) (sc := defScope s_plan_of) (by decide +kernel)) (fun _ _ _ _ _ => zgw_tup (pg_tup rfl (zgsw_cons (pgs_cons (zgw_name (by decide) (pg_name (i := 1) sc_plan_of.nd rfl (Or.inl rfl))) (zgsw_cons (pgs_cons (zgw_name (by decide) (pg_name (i := 2) sc_plan_of.nd rfl (Or.inl rfl))) (zgsw_nil))))))) (fun _ _ _ _ _ => zts_nil) (fun _ _ _ _ _ => z_tup (za_cons (z_ix (zv 1) (z_int)) (za_cons (zv 2) (za_nil))))))) (za_nil))) (za_nil)))), fun _ _ _ h => rd_plan_of h⟩
theorem bd_check_line (t : Tx K mg a) : Binds K a.d_check_line [("line" : Str)] [] := t.F_check_line.binds fun _ _ _ _ _ _ us hl => match us, hl with | [_], _ => rfl
theorem ok_check_line (t : Tx K mg a) (tb : LamX.TabB base mg a.cL a.tL) : FnOk P w K mg base CX0 7 a.f_check_line a.d_check_line [("line" : Str)] (upSp K (TT a) (sp_check_line K a.CLine)) :=
  okP t.F_check_line sc_check_line (fun _ _ h => len_check_line h) (by decide) fun cdv A outer s H E hr => ⟨ts_check_line K a.CLine, zs_one (z_if (zt_not (zt_val (z_callB zc_isi (by rfl) t.b_isinstance (by decide +kernel) (za_cons (zv 0) (za_cons (z_gc (by rfl) t.g_Line) (za_nil)))))) (zs_one (z_never)) (zs_nil)), fun _ _ h => rd_check_line h⟩
theorem bd_names_trip_and_seat (t : Tx K mg a) : Binds K a.d_names_trip_and_seat [("line" : Str), ("thing" : Str)] [] := t.F_names_trip_and_seat.binds fun _ _ _ _ _ _ us hl => match us, hl with | [_, _], _ => rfl
theorem ok_names_trip_and_seat (t : Tx K mg a) (tb : LamX.TabB base mg a.cL a.tL) : FnOk P w K mg base CX0 3 a.f_names_trip_and_seat a.d_names_trip_and_seat [("line" : Str), ("thing" : Str)] (upSp K (TT a) (sp_names_trip_and_seat K a.CLine)) :=
  okP t.F_names_trip_and_seat sc_names_trip_and_seat (fun _ _ h => len_names_trip_and_seat h) (by decide) fun cdv A outer s H E hr => ⟨ts_names_trip_and_seat K a.CLine, zs_cons (z_if (zt_not (zt_val (z_call (ok_is_pair t tb) (hr.mono (by decide)) (by rfl) t.g_is_pair t.k_is_pair (bd_is_pair t) .nil (fun _ _ => .nil) (za_cons (zv 1) (za_nil))))) (zs_one (z_ret (z_bl))) (zs_nil)) (zs_cons (z_asg (zv 1) (zg_tup (pg_tup rfl (zgs_cons1 (zg_name (i := 2) sc_names_trip_and_seat.nd rfl (Or.inl rfl)) (zgs_cons1 (zg_name (i := 3) sc_names_trip_and_seat.nd rfl (Or.inl rfl)) (zgs_nil)))))) (zs_one (z_ret (z_and (z_cmp zo_isnot (z_call (ok_trip_named t tb) (hr.mono (by decide)) (by rfl) t.g_trip_named t.k_trip_named (bd_trip_named t) .nil (fun _ _ => .nil) (za_cons (z_prop (zv 0) t.cl t.p_trips (ok_Line_trips t tb) (hr.mono (by decide)) (bd_Line_trips t)) (za_cons (zv 2) (za_nil)))) (z_non)) (z_one (z_call (ok_is_seat t tb) (hr.mono (by decide)) (by rfl) t.g_is_seat t.k_is_seat (bd_is_seat t) .nil (fun _ _ => .nil) (za_cons (zv 3) (za_cons (z_prop (zv 0) t.cl t.p_capacity (ok_Line_capacity t tb) (hr.mono (by decide)) (bd_Line_capacity t)) (za_nil))))))))), fun _ _ h => rd_names_trip_and_seat h⟩
theorem bd_valid_pairs (t : Tx K mg a) : Binds K a.d_valid_pairs [("line" : Str), ("things" : Str)] [] := t.F_valid_pairs.binds fun _ _ _ _ _ _ us hl => match us, hl with | [_, _], _ => rfl
theorem ok_valid_pairs (t : Tx K mg a) (tb : LamX.TabB base mg a.cL a.tL) : FnOk P w K mg base CX0 4 a.f_valid_pairs a.d_valid_pairs [("line" : Str), ("things" : Str)] (upSp K (TT a) (sp_valid_pairs K a.CLine)) :=
  okP t.F_valid_pairs sc_valid_pairs (fun _ _ h => len_valid_pairs h) (by decide) fun cdv A outer s H E hr => ⟨ts_valid_pairs K a.CLine, zs_cons (z_setF (i := 2) sc_valid_pairs.nd rfl (Or.inl rfl) (zf_lst (za_nil))) (zs_cons (z_for PassesOwn.never rfl (zi_zip (by rfl) t.b_zip (za_cons (z_prop (zv 0) t.cl t.p_trips (ok_Line_trips t tb) (hr.mono (by decide)) (bd_Line_trips t)) (za_cons (zv 1) (za_nil)))) (zg_tup (pg_tup rfl (zgs_cons1 (zg_name (i := 3) sc_valid_pairs.nd rfl (Or.inl rfl)) (zgs_cons1 (zg_name (i := 4) sc_valid_pairs.nd rfl (Or.inl rfl)) (zgs_nil))))) (zs_cons (z_if ((zw_or (zt_not (zt_val (z_call (ok_names_trip_and_seat t tb) (hr.mono (by decide)) (by rfl) t.g_names_trip_and_seat t.k_names_trip_and_seat (bd_names_trip_and_seat t) .nil (fun _ _ => .nil) (za_cons (zv 0) (za_cons (zv 4) (za_nil)))))) (zw_or1 (zt_cmp zo_neI (z_ix (zv 4) (z_int)) (z_ix (zv 3) (z_int))))).pt) (zs_one (z_ret (z_callB zc_len (by rfl) t.b_len (by decide +kernel) (za_cons (zv 2) (za_nil))))) (zs_nil)) (zs_cons (z_if (zt_cmp zo_notInL (z_ix (zv 4) (z_int)) (z_val (z_callFO (ok_seats_left t tb) (hr.mono (by decide)) (by rfl) t.g_seats_left t.k_seats_left (bd_seats_left t) (zo_cons (z_prop (zv 0) t.cl t.p_capacity (ok_Line_capacity t tb) (hr.mono (by decide)) (bd_Line_capacity t)) (zo_cons (zv 3) (zo_last (pv 2))))))) (zs_one (z_ret (z_callB zc_len (by rfl) t.b_len (by decide +kernel) (za_cons (zv 2) (za_nil))))) (zs_nil)) (zs_one (z_app rfl (ps_expr (pe_bm PySem.F.plainAttrs_list PySem.F.slot_list_append PySem.F.type_list_append mt_append (pv 2) (pa_cons (z_tup (za_cons (zv 3) (za_cons (z_ix (zv 4) (z_int)) (za_nil)))) pa_nil)))))))) (zs_one (z_ret (z_callB zc_len (by rfl) t.b_len (by decide +kernel) (za_cons (zv 2) (za_nil)))))), fun _ _ h => rd_valid_pairs h⟩
theorem bd_is_plan (t : Tx K mg a) : Binds K a.d_is_plan [("line" : Str), ("thing" : Str)] [] := t.F_is_plan.binds fun _ _ _ _ _ _ us hl => match us, hl with | [_, _], _ => rfl
theorem ok_is_plan (t : Tx K mg a) (tb : LamX.TabB base mg a.cL a.tL) : FnOk P w K mg base CX0 8 a.f_is_plan a.d_is_plan [("line" : Str), ("thing" : Str)] (upSp K (TT a) (sp_is_plan K a.CLine)) :=
  okP t.F_is_plan sc_is_plan (fun _ _ h => len_is_plan h) (by decide) fun cdv A outer s H E hr => ⟨ts_is_plan K a.CLine, zs_cons (z_expr (z_call (ok_check_line t tb) (hr.mono (by decide)) (by rfl) t.g_check_line t.k_check_line (bd_check_line t) .nil (fun _ _ => .nil) (za_cons (zv 0) (za_nil)))) (zs_cons (z_if ((zw_or (zt_not (zt_val (z_callB zc_isi (by rfl) t.b_isinstance (by decide +kernel) (za_cons (zv 1) (za_cons (z_ty (by rfl) t.b_tuple (by decide +kernel)) (za_nil)))))) (zw_or1 (zt_cmp zo_neI (z_callB zc_len (by rfl) t.b_len (by decide +kernel) (za_cons (zv 1) (za_nil))) (z_callB zc_len (by rfl) t.b_len (by decide +kernel) (za_cons (z_prop (zv 0) t.cl t.p_trips (ok_Line_trips t tb) (hr.mono (by decide)) (bd_Line_trips t)) (za_nil)))))).pt) (zs_one (z_ret (z_bl))) (zs_nil)) (zs_one (z_ret (z_cmp zo_eqI (z_call (ok_valid_pairs t tb) (hr.mono (by decide)) (by rfl) t.g_valid_pairs t.k_valid_pairs (bd_valid_pairs t) .nil (fun _ _ => .nil) (za_cons (zv 0) (za_cons (zv 1) (za_nil)))) (z_callB zc_len (by rfl) t.b_len (by decide +kernel) (za_cons (zv 1) (za_nil))))))), fun _ _ h => rd_is_plan h⟩
theorem bd_overfull (t : Tx K mg a) : Binds K a.d_overfull [("line" : Str)] [] := t.F_overfull.binds fun _ _ _ _ _ _ us hl => match us, hl with | [_], _ => rfl
theorem ok_overfull (t : Tx K mg a) (tb : LamX.TabB base mg a.cL a.tL) : FnOk P w K mg base CX0 8 a.f_overfull a.d_overfull [("line" : Str)] (upSp K (TT a) (sp_overfull K a.CLine)) :=
  okP t.F_overfull sc_overfull (fun _ _ h => len_overfull h) (by decide) fun cdv A outer s H E hr => ⟨ts_overfull K a.CLine, zs_cons (z_expr (z_call (ok_check_line t tb) (hr.mono (by decide)) (by rfl) t.g_check_line t.k_check_line (bd_check_line t) .nil (fun _ _ => .nil) (za_cons (zv 0) (za_nil)))) (zs_cons (z_forW (xg_never fun _ _ z => z) PassesOwn.never rfl (pwk_meth0 (zv 0) t.cl t.m_walk (wfn_Line_walk t) (hr.mono (by decide)) (bd_Line_walk t)) t.cl t.n_queue (zg_tup (pg_tup rfl (zgs_cons1 (zg_name (i := 1) sc_overfull.nd rfl (Or.inl rfl)) (zgs_cons1 (zg_name (i := 2) sc_overfull.nd rfl (Or.inl rfl)) (zgs_cons1 (zg_name (i := 3) sc_overfull.nd rfl (Or.inl rfl)) (zgs_nil)))))) (zs_one (z_if (zt_cmp zo_gt (z_methP (fun _ _ => .nil) (pe_meth (zv 0) t.cl t.m_load (ok_Line_load t tb) (hr.mono (by decide)) (bd_Line_load t) .nil pass0 (za_cons (zv 2) (za_nil)))) (z_prop (zv 0) t.cl t.p_capacity (ok_Line_capacity t tb) (hr.mono (by decide)) (bd_Line_capacity t))) (zs_one (z_ret (zv 2))) (zs_nil))) hr.depth) (zs_one (z_ret (z_non)))), fun _ _ h => rd_overfull h⟩
theorem bd_choices (t : Tx K mg a) : Binds K a.d_choices [("line" : Str)] [] := t.F_choices.binds fun _ _ _ _ _ _ us hl => match us, hl with | [_], _ => rfl
theorem ok_choices (t : Tx K mg a) (tb : LamX.TabB base mg a.cL a.tL) : FnOk P w K mg base CX0 5 a.f_choices a.d_choices [("line" : Str)] (upSp K (TT a) (sp_choices K a.CLine)) :=
  okP t.F_choices sc_choices (fun _ _ h => len_choices h) (by decide) fun cdv A outer s H E hr => ⟨ts_choices K a.CLine, zs_cons (z_setF (i := 1) sc_choices.nd rfl (Or.inl rfl) (zf_lst (za_nil))) (zs_cons (z_setF (i := 2) sc_choices.nd rfl (Or.inl rfl) (zf_lst (za_nil))) (zs_cons (z_forW (xg_never fun _ _ z => z) PassesOwn.never rfl (pwk_meth0 (zv 0) t.cl t.m_walk (wfn_Line_walk t) (hr.mono (by decide)) (bd_Line_walk t)) t.cl t.n_queue (zg_name (i := 3) sc_choices.nd rfl (Or.inr rfl)) (zs_cons (z_app rfl (ps_expr (pe_bm PySem.F.plainAttrs_list PySem.F.slot_list_append PySem.F.type_list_append mt_append (pv 2) (pa_cons (z_op zo_sub (z_prop (zv 0) t.cl t.p_capacity (ok_Line_capacity t tb) (hr.mono (by decide)) (bd_Line_capacity t)) (z_callB zc_len (by rfl) t.b_len (by decide +kernel) (za_cons (z_val (zf_lcO (i := 1) (own := [(("other" : Str), 4)]) (pe_lc (own := [(("other" : Str), 4)]) rfl sc_choices.nd (pi_list (pv 1)) (blkOk_by (own := [(("other" : Str), 4)]) (N := N_choices) (sc := defScope s_choices) (by decide +kernel)) (fun _ _ _ _ _ => zgw_name (by decide) (pg_name (i := 4) sc_choices.nd rfl (Or.inl rfl))) (fun _ _ _ _ _ => zts_one (zt_val (z_call (ok_meet t tb) (hr.mono (by decide)) (by rfl) t.g_meet t.k_meet (bd_meet t) .nil (fun _ _ => .nil) (za_cons (zv 3) (za_cons (zv 4) (za_nil)))))) (fun _ _ _ _ _ => zv 4)))) (za_nil)))) pa_nil)))) (zs_one (z_app rfl (ps_expr (pe_bm PySem.F.plainAttrs_list PySem.F.slot_list_append PySem.F.type_list_append mt_append (pv 1) (pa_cons (zv 3) pa_nil)))))) hr.depth) (zs_one (z_ret (zv 2))))), fun _ _ h => rd_choices h⟩
theorem bd_count (t : Tx K mg a) : Binds K a.d_count [("line" : Str)] [] := t.F_count.binds fun _ _ _ _ _ _ us hl => match us, hl with | [_], _ => rfl
theorem ok_count (t : Tx K mg a) (tb : LamX.TabB base mg a.cL a.tL) : FnOk P w K mg base CX0 9 a.f_count a.d_count [("line" : Str)] (upSp K (TT a) (sp_count K a.CLine)) :=
  okP t.F_count sc_count (fun _ _ h => len_count h) (by decide) fun cdv A outer s H E hr => ⟨ts_count K a.CLine, zs_cons (z_if (zt_cmp zo_isnot (z_call (ok_overfull t tb) (hr.mono (by decide)) (by rfl) t.g_overfull t.k_overfull (bd_overfull t) .nil (fun _ _ => .nil) (za_cons (zv 0) (za_nil))) (z_non)) (zs_one (z_ret (z_int))) (zs_nil)) (zs_cons (z_set (i := 1) sc_count.nd rfl (Or.inl rfl) (z_int)) (zs_cons (z_for PassesOwn.never rfl (zi_list (z_call (ok_choices t tb) (hr.mono (by decide)) (by rfl) t.g_choices t.k_choices (bd_choices t) .nil (fun _ _ => .nil) (za_cons (zv 0) (za_nil)))) (zg_name (i := 2) sc_count.nd rfl (Or.inl rfl)) (zs_one (z_aug (i := 1) sc_count.nd rfl (Or.inl rfl) (zv 2) (ps_aug (i := 1) sc_count.nd rfl (Or.inl rfl) (zv 2) ip_augI)))) (zs_one (z_ret (zv 1))))), fun _ _ h => rd_count h⟩
theorem bd_digits_of (t : Tx K mg a) : Binds K a.d_digits_of [("number" : Str), ("sizes" : Str)] [] := t.F_digits_of.binds fun _ _ _ _ _ _ us hl => match us, hl with | [_, _], _ => rfl
theorem ok_digits_of (t : Tx K mg a) (tb : LamX.TabB base mg a.cL a.tL) : FnOk P w K mg base CX0 1 a.f_digits_of a.d_digits_of [("number" : Str), ("sizes" : Str)] (upSp K (TT a) (sp_digits_of K a.CLine)) :=
  okP t.F_digits_of sc_digits_of (fun _ _ h => len_digits_of h) (by decide) fun cdv A outer s H E hr => ⟨ts_digits_of K a.CLine, zs_cons (z_setF (i := 2) sc_digits_of.nd rfl (Or.inl rfl) (zf_lst (za_nil))) (zs_cons (z_for PassesOwn.never rfl (zi_rev (by rfl) t.b_reversed (zv 1)) (zg_name (i := 3) sc_digits_of.nd rfl (Or.inl rfl)) (zs_cons (z_app rfl (ps_expr (pe_bm PySem.F.plainAttrs_list PySem.F.slot_list_append PySem.F.type_list_append mt_append (pv 2) (pa_cons (z_op zo_mod (zv 0) (zv 3)) pa_nil)))) (zs_one (z_set (i := 0) sc_digits_of.nd rfl (Or.inl rfl) (z_op zo_div (zv 0) (zv 3)))))) (zs_one (z_ret (z_revL (zv 2))))), fun _ _ h => rd_digits_of h⟩
theorem bd_numbered (t : Tx K mg a) : Binds K a.d_numbered [("line" : Str), ("number" : Str)] [] := t.F_numbered.binds fun _ _ _ _ _ _ us hl => match us, hl with | [_, _], _ => rfl
theorem ok_numbered (t : Tx K mg a) (tb : LamX.TabB base mg a.cL a.tL) : FnOk P w K mg base CX0 6 a.f_numbered a.d_numbered [("line" : Str), ("number" : Str)] (upSp K (TT a) (sp_numbered K a.CLine)) :=
  okP t.F_numbered sc_numbered (fun _ _ h => len_numbered h) (by decide) fun cdv A outer s H E hr => ⟨ts_numbered K a.CLine, zs_cons (z_set (i := 2) sc_numbered.nd rfl (Or.inl rfl) (z_call (ok_digits_of t tb) (hr.mono (by decide)) (by rfl) t.g_digits_of t.k_digits_of (bd_digits_of t) .nil (fun _ _ => .nil) (za_cons (zv 1) (za_cons (z_call (ok_choices t tb) (hr.mono (by decide)) (by rfl) t.g_choices t.k_choices (bd_choices t) .nil (fun _ _ => .nil) (za_cons (zv 0) (za_nil))) (za_nil))))) (zs_cons (z_setF (i := 3) sc_numbered.nd rfl (Or.inl rfl) (zf_lst (za_nil))) (zs_cons (z_forWZ (ps_forWZ (j := 2) (xg_never fun _ _ z => z) PassesOwn.never rfl (pwk_meth0 (zv 0) t.cl t.m_walk (wfn_Line_walk t) (hr.mono (by decide)) (bd_Line_walk t)) t.cl t.n_queue (zg_tup (pg_tup rfl (zgs_cons1 (zg_name (i := 4) sc_numbered.nd rfl (Or.inl rfl)) (zgs_cons1 (zg_name (i := 5) sc_numbered.nd rfl (Or.inl rfl)) (zgs_nil))))) (zs_cons (z_set (i := 6) sc_numbered.nd rfl (Or.inl rfl) (z_val (z_callFO (ok_seats_left t tb) (hr.mono (by decide)) (by rfl) t.g_seats_left t.k_seats_left (bd_seats_left t) (zo_cons (z_prop (zv 0) t.cl t.p_capacity (ok_Line_capacity t tb) (hr.mono (by decide)) (bd_Line_capacity t)) (zo_cons (zv 4) (zo_last (pv 3))))))) (zs_one (z_app rfl (ps_expr (pe_bm PySem.F.plainAttrs_list PySem.F.slot_list_append PySem.F.type_list_append mt_append (pv 3) (pa_cons (z_tup (za_cons (zv 4) (za_cons (z_ix (zv 6) (zv 5)) (za_nil)))) pa_nil)))))) hr.depth (by rfl) t.b_zip rfl (by first | exact Or.inl rfl | exact Or.inr (Or.inl rfl) | exact Or.inr (Or.inr rfl)))) (zs_one (z_ret (z_callR (ok_plan_of t tb) (hr.mono (by decide)) (by rfl) t.g_plan_of t.k_plan_of (bd_plan_of t) (pa_cons (pv 3) (za_nil))))))), fun _ _ h => rd_numbered h⟩
theorem bd_plan_at (t : Tx K mg a) : Binds K a.d_plan_at [("line" : Str), ("number" : Str)] [] := t.F_plan_at.binds fun _ _ _ _ _ _ us hl => match us, hl with | [_, _], _ => rfl
theorem ok_plan_at (t : Tx K mg a) (tb : LamX.TabB base mg a.cL a.tL) : FnOk P w K mg base CX0 10 a.f_plan_at a.d_plan_at [("line" : Str), ("number" : Str)] (upSp K (TT a) (sp_plan_at K a.CLine)) :=
  okP t.F_plan_at sc_plan_at (fun _ _ h => len_plan_at h) (by decide) fun cdv A outer s H E hr => ⟨ts_plan_at K a.CLine, zs_cons (z_expr (z_call (ok_check_line t tb) (hr.mono (by decide)) (by rfl) t.g_check_line t.k_check_line (bd_check_line t) .nil (fun _ _ => .nil) (za_cons (zv 0) (za_nil)))) (zs_cons (z_if ((zw_or (zt_not (zt_val (z_call (ok_is_integer t tb) (hr.mono (by decide)) (by rfl) t.g_is_integer t.k_is_integer (bd_is_integer t) .nil (fun _ _ => .nil) (za_cons (zv 1) (za_nil))))) (zw_or1 (zt_not (zt_chain zo_le zo_lt (z_int) (zv 1) (z_call (ok_count t tb) (hr.mono (by decide)) (by rfl) t.g_count t.k_count (bd_count t) .nil (fun _ _ => .nil) (za_cons (zv 0) (za_nil))))))).pt) (zs_one (z_never)) (zs_nil)) (zs_one (z_ret (z_call (ok_numbered t tb) (hr.mono (by decide)) (by rfl) t.g_numbered t.k_numbered (bd_numbered t) .nil (fun _ _ => .nil) (za_cons (zv 0) (za_cons (zv 1) (za_nil))))))), fun _ _ h => rd_plan_at h⟩
theorem bd_law_cell (t : Tx K mg a) : Binds K a.d_law_cell [("_law_script" : Str), ("_law_k" : Str)] [] := t.F_law_cell.binds fun _ _ _ _ _ _ us hl => match us, hl with | [_, _], _ => rfl
theorem ok_law_cell (t : Tx K mg a) (tb : LamX.TabB base mg a.cL a.tL) : FnOk P w K mg base CX0 1 a.f_law_cell a.d_law_cell [("_law_script" : Str), ("_law_k" : Str)] (upSp K (TT a) (sp_law_cell K a.CLine)) :=
  okP t.F_law_cell sc_law_cell (fun _ _ h => len_law_cell h) (by decide) fun cdv A outer s H E hr => ⟨ts_law_cell K a.CLine, zs_cons (z_if (zt_cmp zo_lt (zv 1) (z_callB zc_len (by rfl) t.b_len (by decide +kernel) (za_cons (zv 0) (za_nil)))) (zs_one (z_ret (z_ix (zv 0) (zv 1)))) (zs_nil)) (zs_cons (z_set (i := 2) sc_law_cell.nd rfl (Or.inl rfl) (z_op zo_mod (z_op zo_mulA (z_int) (z_op zo_add (z_op zo_add (z_op zo_mulA (zv 1) (zv 1)) (z_op zo_mulA (z_int) (zv 1))) (z_int))) (z_int))) (zs_cons (z_for PassesOwn.never rfl (zi_list (z_slice (zv 0) (zp_none) (zp_some (z_int)))) (zg_name (i := 3) sc_law_cell.nd rfl (Or.inl rfl)) (zs_one (z_set (i := 2) sc_law_cell.nd rfl (Or.inl rfl) (z_op zo_mod (z_op zo_add (z_op zo_mulA (zv 2) (z_int)) (zv 3)) (z_int))))) (zs_one (z_ret (zv 2))))), fun _ _ h => rd_law_cell h⟩
theorem bd_law_pool (t : Tx K mg a) : Binds K a.d_law_pool [("_law_cell_here" : Str)] [] := t.F_law_pool.binds fun _ _ _ _ _ _ us hl => match us, hl with | [_], _ => rfl
theorem ok_law_pool (t : Tx K mg a) (tb : LamX.TabB base mg a.cL a.tL) : FnOk P w K mg base CX0 1 a.f_law_pool a.d_law_pool [("_law_cell_here" : Str)] (upSpF K (TT a) (sp_law_pool K a.CLine)) :=
  okF t.F_law_pool sc_law_pool (fun _ _ h => len_law_pool h) (by decide) fun cdv A outer s H E hr => ⟨ts_law_pool K a.CLine, zsf_cons (z_set (i := 1) sc_law_pool.nd rfl (Or.inl rfl) (z_int)) (zsf_cons (z_if ((zw_or (zt_cmp zo_lt (zv 0) (z_int)) (zw_or1 (zt_cmp zo_ge (zv 0) (z_op zo_pow (z_int) (z_int))))).pt) (zs_one (z_set (i := 1) sc_law_pool.nd rfl (Or.inl rfl) (z_callB zc_abs (by rfl) t.b_abs (by decide +kernel) (za_cons (zv 0) (za_nil))))) (zs_nil)) (zsf_ret (zf_lst (za_cons (z_op zo_mod (zv 0) (z_int)) (za_cons (zv 1) (za_cons (z_int) (za_nil))))))), fun _ _ h => rd_law_pool h⟩
theorem bd_law_draw (t : Tx K mg a) : Binds K a.d_law_draw [("_law_pool_here" : Str), ("_law_many" : Str)] [] := t.F_law_draw.binds fun _ _ _ _ _ _ us hl => match us, hl with | [_, _], _ => rfl
theorem ok_law_draw (t : Tx K mg a) (tb : LamX.TabB base mg a.cL a.tL) : FnOk P w K mg base CX0 1 a.f_law_draw a.d_law_draw [("_law_pool_here" : Str), ("_law_many" : Str)] (upSpR K (TT a) (sp_law_draw K a.CLine)) :=
  okR (nm := ("_law_pool_here" : Str)) (N := [("_law_many" : Str), ("_law_state" : Str), ("_law_digit" : Str)]) (ps := [("_law_many" : Str)]) t.F_law_draw sc_law_draw (fun _ _ _ h => len_law_draw h) (by decide) fun cdv A outer s H E hr => ⟨ts_law_draw K a.CLine, zs_cons (z_asg (z_op zo_add (z_ixO (pv 0) (z_int)) (z_int)) (zg_sub (pv 0) (z_int) (pg_sub (pv 0) (z_int) set_list))) (zs_cons (z_set (i := 2) sc_law_draw.nd rfl (Or.inl rfl) (z_ixO (pv 0) (z_int))) (zs_cons (z_asg (z_op zo_mod (z_op zo_add (z_op zo_add (z_op zo_mulA (zv 2) (z_op zo_add (z_op zo_mod (zv 2) (z_int)) (z_int))) (z_op zo_mulA (z_int) (z_ixO (pv 0) (z_int)))) (z_int)) (z_int)) (zg_sub (pv 0) (z_int) (pg_sub (pv 0) (z_int) set_list))) (zs_cons (z_if (zt_cmp zo_gt (z_ixO (pv 0) (z_int)) (z_int)) (zs_cons (z_asg (z_callB zc_divmodW (by rfl) t.b_divmod (by decide +kernel) (za_cons (z_ixO (pv 0) (z_int)) (za_cons (zv 1) (za_nil)))) (zg_tup (pg_tup rfl (zgs_cons1 (zg_sub (pv 0) (z_int) (pg_sub (pv 0) (z_int) set_list)) (zgs_cons1 (zg_name (i := 3) sc_law_draw.nd rfl (Or.inl rfl)) (zgs_nil)))))) (zs_one (z_ret (zv 3)))) (zs_nil)) (zs_one (z_ret (z_op zo_mod (z_op zo_div (z_ixO (pv 0) (z_int)) (z_int)) (zv 1))))))), fun _ _ _ h => rd_law_draw h⟩
theorem bd_law_words (t : Tx K mg a) : Binds K a.d_law_words [("_law_pool_here" : Str), ("_law_many" : Str)] [] := t.F_law_words.binds fun _ _ _ _ _ _ us hl => match us, hl with | [_, _], _ => rfl
theorem ok_law_words (t : Tx K mg a) (tb : LamX.TabB base mg a.cL a.tL) : FnOk P w K mg base CX0 2 a.f_law_words a.d_law_words [("_law_pool_here" : Str), ("_law_many" : Str)] (upSpR K (TT a) (sp_law_words K a.CLine)) :=
  okR (nm := ("_law_pool_here" : Str)) (N := [("_law_many" : Str), ("_law_letters" : Str), ("_law_menu" : Str), ("_law_way" : Str), ("_law_begin" : Str), ("_law_stem" : Str), ("_law_at" : Str), ("_law_k" : Str)]) (ps := [("_law_many" : Str)]) t.F_law_words sc_law_words (fun _ _ _ h => len_law_words h) (by decide) fun cdv A outer s H E hr => ⟨ts_law_words K a.CLine, zs_cons (z_set (i := 2) sc_law_words.nd rfl (Or.inr rfl) (z_str)) (zs_cons (z_set (i := 3) sc_law_words.nd rfl (Or.inr rfl) (z_lst (za_cons (z_str) (za_cons (z_str) (za_cons (z_str) (za_cons (z_str) (za_cons (z_str) (za_cons (z_str) (za_cons (z_str) (za_cons (z_str) (za_cons (z_str) (za_cons (z_str) (za_cons (z_str) (za_cons (z_str) (za_nil))))))))))))))) (zs_cons (z_set (i := 3) sc_law_words.nd rfl (Or.inr rfl) (z_op zo_add (zv 3) (z_lst (za_cons (z_str) (za_cons (z_str) (za_cons (z_str) (za_cons (z_str) (za_cons (z_str) (za_cons (z_str) (za_cons (z_str) (za_cons (z_str) (za_cons (z_str) (za_cons (z_str) (za_cons (z_str) (za_cons (z_str) (za_nil)))))))))))))))) (zs_cons (z_asg (z_tup (za_cons (z_callR (ok_law_draw t tb) (hr.mono (by decide)) (by rfl) t.g__law_draw t.k__law_draw (bd_law_draw t) (pa_cons (pv 0) (za_cons (z_int) (za_nil)))) (za_cons (z_callR (ok_law_draw t tb) (hr.mono (by decide)) (by rfl) t.g__law_draw t.k__law_draw (bd_law_draw t) (pa_cons (pv 0) (za_cons (z_int) (za_nil)))) (za_nil)))) (zg_tup (pg_tup rfl (zgs_cons1 (zg_name (i := 4) sc_law_words.nd rfl (Or.inl rfl)) (zgs_cons1 (zg_name (i := 5) sc_law_words.nd rfl (Or.inr rfl)) (zgs_nil)))))) (zs_cons (z_if (zt_cmp (zo_eq hr.units) (zv 4) (z_int)) (zs_one (z_ret (z_val (zf_lc (own := [(("_law_k" : Str), 8)]) (pe_lc (own := [(("_law_k" : Str), 8)]) rfl sc_law_words.nd (zi_range1 (by rfl) t.b_range (zv 1)) (blkOk_by (own := [(("_law_k" : Str), 8)]) (N := N_law_words) (sc := defScope s_law_words) (by decide +kernel)) (fun _ _ _ _ _ => zgw_name (by decide) (pg_name (i := 8) sc_law_words.nd rfl (Or.inl rfl))) (fun _ _ _ _ _ => zts_nil) (fun _ _ _ _ _ => z_ix (zv 3) (z_op zo_mod (z_op zo_add (zv 5) (z_op zo_mulA (z_int) (zv 8))) (z_int)))))))) (zs_nil)) (zs_cons (z_if (zt_cmp (zo_eq hr.units) (zv 4) (z_int)) (zs_one (z_ret (z_val (zf_lc (own := [(("_law_k" : Str), 8)]) (pe_lc (own := [(("_law_k" : Str), 8)]) rfl sc_law_words.nd (zi_range1 (by rfl) t.b_range (zv 1)) (blkOk_by (own := [(("_law_k" : Str), 8)]) (N := N_law_words) (sc := defScope s_law_words) (by decide +kernel)) (fun _ _ _ _ _ => zgw_name (by decide) (pg_name (i := 8) sc_law_words.nd rfl (Or.inl rfl))) (fun _ _ _ _ _ => zts_nil) (fun _ _ _ _ _ => z_op zo_mulA (z_ix (zv 2) (z_op zo_mod (z_op zo_add (zv 5) (z_op zo_mulA (z_int) (zv 8))) (z_int))) (z_op zo_add (z_int) (z_op zo_mod (zv 8) (z_int))))))))) (zs_nil)) (zs_cons (z_set (i := 6) sc_law_words.nd rfl (Or.inr rfl) (z_join rfl (pe_join (z_str) (z_val (zf_lc (own := [(("_law_k" : Str), 8)]) (pe_lc (own := [(("_law_k" : Str), 8)]) rfl sc_law_words.nd (zi_range1 (by rfl) t.b_range (z_callR (ok_law_draw t tb) (hr.mono (by decide)) (by rfl) t.g__law_draw t.k__law_draw (bd_law_draw t) (pa_cons (pv 0) (za_cons (z_int) (za_nil))))) (blkOk_by (own := [(("_law_k" : Str), 8)]) (N := N_law_words) (sc := defScope s_law_words) (by decide +kernel)) (fun _ _ _ _ _ => zgw_name (by decide) (pg_name (i := 8) sc_law_words.nd rfl (Or.inl rfl))) (fun _ _ _ _ _ => zts_nil) (fun _ _ _ _ _ => z_ix (zv 2) (z_callR (ok_law_draw t tb) (hr.mono (by decide)) (by rfl) t.g__law_draw t.k__law_draw (bd_law_draw t) (pa_cons (pv 0) (za_cons (z_int) (za_nil))))))))))) (zs_cons (z_set (i := 7) sc_law_words.nd rfl (Or.inr rfl) (z_callR (ok_law_draw t tb) (hr.mono (by decide)) (by rfl) t.g__law_draw t.k__law_draw (bd_law_draw t) (pa_cons (pv 0) (za_cons (z_op zo_add (z_callB zc_len (by rfl) t.b_len (by decide +kernel) (za_cons (zv 6) (za_nil))) (z_int)) (za_nil))))) (zs_one (z_ret (z_val (zf_lc (own := [(("_law_k" : Str), 8)]) (pe_lc (own := [(("_law_k" : Str), 8)]) rfl sc_law_words.nd (zi_range1 (by rfl) t.b_range (zv 1)) (blkOk_by (own := [(("_law_k" : Str), 8)]) (N := N_law_words) (sc := defScope s_law_words) (by decide +kernel)) (fun _ _ _ _ _ => zgw_name (by decide) (pg_name (i := 8) sc_law_words.nd rfl (Or.inl rfl))) (fun _ _ _ _ _ => zts_nil) (fun _ _ _ _ _ => z_op zo_add (z_op zo_add (z_slice (zv 6) (zp_none) (zp_some (zv 7))) (z_ix (zv 2) (z_op zo_mod (z_op zo_add (zv 5) (z_op zo_mulA (z_int) (zv 8))) (z_int)))) (z_slice (zv 6) (zp_some (zv 7)) (zp_none))))))))))))))), fun _ _ _ h => rd_law_words h⟩
theorem bd_law_far (t : Tx K mg a) : Binds K a.d_law_far [("_law_pool_here" : Str), ("_law_high" : Str)] [] := t.F_law_far.binds fun _ _ _ _ _ _ us hl => match us, hl with | [_, _], _ => rfl
theorem ok_law_far (t : Tx K mg a) (tb : LamX.TabB base mg a.cL a.tL) : FnOk P w K mg base CX0 2 a.f_law_far a.d_law_far [("_law_pool_here" : Str), ("_law_high" : Str)] (upSpR K (TT a) (sp_law_far K a.CLine)) :=
  okR (nm := ("_law_pool_here" : Str)) (N := [("_law_high" : Str), ("_law_found" : Str), ("_law_here" : Str), ("_law_way" : Str), ("_law_k" : Str)]) (ps := [("_law_high" : Str)]) t.F_law_far sc_law_far (fun _ _ _ h => len_law_far h) (by decide) fun cdv A outer s H E hr => ⟨ts_law_far K a.CLine, zs_cons (z_par3 (i := 2) (j := 3) (l := 4) rfl (ps_par3 (i := 2) (j := 3) (l := 4) rfl sc_law_far.nd rfl rfl rfl (by decide) (by decide) (by decide) rfl rfl rfl (zr_f (zf_lst (za_nil)) (zr_v (z_callR (ok_law_draw t tb) (hr.mono (by decide)) (by rfl) t.g__law_draw t.k__law_draw (bd_law_draw t) (pa_cons (pv 0) (za_cons (z_int) (za_nil)))) (zr_v (z_callR (ok_law_draw t tb) (hr.mono (by decide)) (by rfl) t.g__law_draw t.k__law_draw (bd_law_draw t) (pa_cons (pv 0) (za_cons (z_int) (za_nil)))) (zr_nil)))) (by rfl))) (zs_cons (z_for PassesOwn.never rfl (zi_range1 (by rfl) t.b_range (z_op zo_add (zv 1) (z_int))) (zg_name (i := 5) sc_law_far.nd rfl (Or.inl rfl)) (zs_cons (z_app rfl (ps_expr (pe_bm PySem.F.plainAttrs_list PySem.F.slot_list_append PySem.F.type_list_append mt_append (pv 2) (pa_cons (z_ifExp (zt_cmp zo_gt (zv 4) (z_int)) (zv 5) (zv 3)) pa_nil)))) (zs_one (z_set (i := 3) sc_law_far.nd rfl (Or.inl rfl) (z_op zo_add (z_op zo_add (zv 3) (z_int)) (z_ix (z_lst (za_cons (z_int) (za_cons (z_callR (ok_law_draw t tb) (hr.mono (by decide)) (by rfl) t.g__law_draw t.k__law_draw (bd_law_draw t) (pa_cons (pv 0) (za_cons (z_int) (za_nil)))) (za_cons (z_op zo_pow (z_int) (z_int)) (za_nil))))) (z_callR (ok_law_draw t tb) (hr.mono (by decide)) (by rfl) t.g__law_draw t.k__law_draw (bd_law_draw t) (pa_cons (pv 0) (za_cons (z_int) (za_nil)))))))))) (zs_one (z_ret (zv 2)))), fun _ _ _ h => rd_law_far h⟩
theorem bd_law_rides (t : Tx K mg a) : Binds K a.d_law_rides [("_law_pool_here" : Str), ("_law_words_here" : Str), ("_law_high" : Str)] [] := t.F_law_rides.binds fun _ _ _ _ _ _ us hl => match us, hl with | [_, _, _], _ => rfl
theorem ok_law_rides (t : Tx K mg a) (tb : LamX.TabB base mg a.cL a.tL) : FnOk P w K mg base CX0 3 a.f_law_rides a.d_law_rides [("_law_pool_here" : Str), ("_law_words_here" : Str), ("_law_high" : Str)] (upSpR K (TT a) (sp_law_rides K a.CLine)) :=
  okR (nm := ("_law_pool_here" : Str)) (N := [("_law_words_here" : Str), ("_law_high" : Str), ("_law_places" : Str), ("_law_found" : Str), ("_law_last" : Str), ("_law_word" : Str), ("_law_way" : Str), ("_law_begin" : Str)]) (ps := [("_law_words_here" : Str), ("_law_high" : Str)]) t.F_law_rides sc_law_rides (fun _ _ _ h => len_law_rides h) (by decide) fun cdv A outer s H E hr => ⟨ts_law_rides K a.CLine, zs_cons (z_par3 (i := 3) (j := 4) (l := 5) rfl (ps_par3 (i := 3) (j := 4) (l := 5) rfl sc_law_rides.nd rfl rfl rfl (by decide) (by decide) (by decide) rfl rfl rfl (zr_v (z_callR (ok_law_far t tb) (hr.mono (by decide)) (by rfl) t.g__law_far t.k__law_far (bd_law_far t) (pa_cons (pv 0) (za_cons (zv 2) (za_nil)))) (zr_f (zf_lst (za_nil)) (zr_v (z_int) (zr_nil)))) (by rfl))) (zs_cons (z_for PassesOwn.never rfl (zi_list (zv 1)) (zg_name (i := 6) sc_law_rides.nd rfl (Or.inl rfl)) (zs_cons (z_set (i := 7) sc_law_rides.nd rfl (Or.inl rfl) (z_callR (ok_law_draw t tb) (hr.mono (by decide)) (by rfl) t.g__law_draw t.k__law_draw (bd_law_draw t) (pa_cons (pv 0) (za_cons (z_int) (za_nil))))) (zs_cons (z_set (i := 8) sc_law_rides.nd rfl (Or.inl rfl) (z_ifExp ((zw_and (zt_cmp (zo_eq hr.units) (zv 7) (z_int)) (zw_and1 (zt_cmp zo_lt (zv 5) (zv 2)))).pt) (zv 5) (z_callR (ok_law_draw t tb) (hr.mono (by decide)) (by rfl) t.g__law_draw t.k__law_draw (bd_law_draw t) (pa_cons (pv 0) (za_cons (zv 2) (za_nil)))))) (zs_cons (z_set (i := 5) sc_law_rides.nd rfl (Or.inl rfl) (z_op zo_add (z_op zo_add (zv 8) (z_int)) (z_callR (ok_law_draw t tb) (hr.mono (by decide)) (by rfl) t.g__law_draw t.k__law_draw (bd_law_draw t) (pa_cons (pv 0) (za_cons (z_ifExp (zt_cmp zo_gt (z_op zo_sub (zv 2) (zv 8)) (z_int)) (z_ix (z_lst (za_cons (z_int) (za_cons (z_int) (za_cons (z_op zo_sub (zv 2) (zv 8)) (za_cons (z_op zo_sub (zv 2) (zv 8)) (za_nil)))))) (zv 7)) (z_int)) (za_nil)))))) (zs_cons (z_set (i := 5) sc_law_rides.nd rfl (Or.inl rfl) (z_callB (zc_min2 rfl) (by rfl) t.b_min (by decide +kernel) (za_cons (zv 5) (za_cons (zv 2) (za_nil))))) (zs_one (z_app rfl (ps_expr (pe_bm PySem.F.plainAttrs_list PySem.F.slot_list_append PySem.F.type_list_append mt_append (pv 4) (pa_cons (z_tup (za_cons (zv 6) (za_cons (z_ix (zv 3) (zv 8)) (za_cons (z_ix (zv 3) (zv 5)) (za_nil))))) pa_nil)))))))))) (zs_one (z_ret (z_callTy zc_tuple (by rfl) t.b_tuple (by decide +kernel) (za_cons (z_callB (zc_sorted hr.units) (by rfl) t.b_sorted (by decide +kernel) (za_cons (zv 4) (za_nil))) (za_nil)))))), fun _ _ _ h => rd_law_rides h⟩
theorem bd_law_less (t : Tx K mg a) : Binds K a.d_law_less [("_law_spots" : Str), ("_law_word" : Str)] [] := t.F_law_less.binds fun _ _ _ _ _ _ us hl => match us, hl with | [_, _], _ => rfl
theorem ok_law_less (t : Tx K mg a) (tb : LamX.TabB base mg a.cL a.tL) : FnOk P w K mg base CX0 1 a.f_law_less a.d_law_less [("_law_spots" : Str), ("_law_word" : Str)] (upSp K (TT a) (sp_law_less K a.CLine)) :=
  okP t.F_law_less sc_law_less (fun _ _ h => len_law_less h) (by decide) fun cdv A outer s H E hr => ⟨ts_law_less K a.CLine, zs_one (z_ret (z_callTy zc_tuple (by rfl) t.b_tuple (by decide +kernel) (za_cons (z_val (zf_lc (own := [(("_law_pair" : Str), 2)]) (pe_lc (own := [(("_law_pair" : Str), 2)]) rfl sc_law_less.nd (zi_tup (zv 0)) (blkOk_by (own := [(("_law_pair" : Str), 2)]) (N := N_law_less) (sc := defScope s_law_less) (by decide +kernel)) (fun _ _ _ _ _ => zgw_name (by decide) (pg_name (i := 2) sc_law_less.nd rfl (Or.inl rfl))) (fun _ _ _ _ _ => zts_one (zt_cmp zo_neI (z_ix (zv 2) (z_int)) (zv 1))) (fun _ _ _ _ _ => zv 2)))) (za_nil)))), fun _ _ h => rd_law_less h⟩
theorem bd_law_right (t : Tx K mg a) : Binds K a.d_law_right [("_law_pool_here" : Str)] [] := t.F_law_right.binds fun _ _ _ _ _ _ us hl => match us, hl with | [_], _ => rfl
theorem ok_law_right (t : Tx K mg a) (tb : LamX.TabB base mg a.cL a.tL) : FnOk P w K mg base CX0 11 a.f_law_right a.d_law_right [("_law_pool_here" : Str)] (upSpR K (TT a) (sp_law_right K a.CLine)) :=
  okR (nm := ("_law_pool_here" : Str)) (N := [("_law_width" : Str), ("_law_words_here" : Str), ("_law_rides_here" : Str), ("_law_made" : Str), ("_law_whole" : Str), ("_law_turn" : Str), ("_law_ride" : Str), ("_law_more_ride" : Str), ("_law_less_here" : Str), ("_law_spots" : Str), ("_law_two" : Str), ("_law_names" : Str), ("_law_fresh" : Str), ("_law_letter" : Str), ("_law_word" : Str)]) (ps := []) t.F_law_right sc_law_right (fun _ _ _ h => len_law_right h) (by decide) fun cdv A outer s H E hr => ⟨ts_law_right K a.CLine, zs_cons (z_asg (z_tup (za_cons (z_op zo_add (z_int) (z_callR (ok_law_draw t tb) (hr.mono (by decide)) (by rfl) t.g__law_draw t.k__law_draw (bd_law_draw t) (pa_cons (pv 0) (za_cons (z_int) (za_nil))))) (za_cons (z_callR (ok_law_words t tb) (hr.mono (by decide)) (by rfl) t.g__law_words t.k__law_words (bd_law_words t) (pa_cons (pv 0) (za_cons (z_op zo_add (z_int) (z_callR (ok_law_draw t tb) (hr.mono (by decide)) (by rfl) t.g__law_draw t.k__law_draw (bd_law_draw t) (pa_cons (pv 0) (za_cons (z_int) (za_nil))))) (za_nil)))) (za_nil)))) (zg_tup (pg_tup rfl (zgs_cons1 (zg_name (i := 1) sc_law_right.nd rfl (Or.inl rfl)) (zgs_cons1 (zg_name (i := 2) sc_law_right.nd rfl (Or.inr rfl)) (zgs_nil)))))) (zs_cons (z_set (i := 3) sc_law_right.nd rfl (Or.inl rfl) (z_callR (ok_law_rides t tb) (hr.mono (by decide)) (by rfl) t.g__law_rides t.k__law_rides (bd_law_rides t) (pa_cons (pv 0) (za_cons (zv 2) (za_cons (z_int) (za_nil)))))) (zs_cons (z_par2 (i := 4) (j := 5) rfl (ps_par (i := 4) (j := 5) rfl sc_law_right.nd rfl rfl (by decide) rfl rfl (zr_v (z_new t.mkL (ok_Line_init t tb) (hr.mono (by decide)) (by rfl) t.g_Line (bd_Line_init t) .nil (fun _ _ => .nil) (za_cons (zv 1) (za_cons (zv 3) (za_nil)))) (zr_v (z_call (ok_count t tb) (hr.mono (by decide)) (by rfl) t.g_count t.k_count (bd_count t) .nil (fun _ _ => .nil) (za_cons (z_new t.mkL (ok_Line_init t tb) (hr.mono (by decide)) (by rfl) t.g_Line (bd_Line_init t) .nil (fun _ _ => .nil) (za_cons (zv 1) (za_cons (zv 3) (za_nil)))) (za_nil))) (zr_nil))) (by rfl))) (zs_cons (z_for PassesOwn.never rfl (zi_range1 (by rfl) t.b_range (z_int)) (zg_name (i := 6) sc_law_right.nd rfl (Or.inl rfl)) (zs_cons (z_par2 (i := 7) (j := 8) rfl (ps_par (i := 7) (j := 8) rfl sc_law_right.nd rfl rfl (by decide) rfl rfl (zr_v (z_ix (zv 3) (z_callR (ok_law_draw t tb) (hr.mono (by decide)) (by rfl) t.g__law_draw t.k__law_draw (bd_law_draw t) (pa_cons (pv 0) (za_cons (z_callB zc_len (by rfl) t.b_len (by decide +kernel) (za_cons (zv 3) (za_nil))) (za_nil))))) (zr_v (z_ix (zv 3) (z_callR (ok_law_draw t tb) (hr.mono (by decide)) (by rfl) t.g__law_draw t.k__law_draw (bd_law_draw t) (pa_cons (pv 0) (za_cons (z_callB zc_len (by rfl) t.b_len (by decide +kernel) (za_cons (zv 3) (za_nil))) (za_nil))))) (zr_nil))) (by rfl))) (zs_cons (z_set (i := 9) sc_law_right.nd rfl (Or.inl rfl) (z_methV (pe_methR (zv 4) t.cl t.m_without (ok_Line_without t tb) (hr.mono (by decide)) pass0 (za_cons (z_ix (zv 7) (z_int)) (za_nil))))) (zs_cons (z_if ((zw_or (zt_cmpO t.ow (op_neO (ok_Line_eq t tb) (hr.mono (by decide)) t.ow (bd_Line_eq t)) (z_methP (fun _ _ => .nil) (pe_meth (zv 9) t.cl t.m_added (ok_Line_added t tb) (hr.mono (by decide)) (bd_Line_added t) .nil pass0 (za_cons (z_ix (zv 7) (z_int)) (za_cons (z_ix (zv 7) (z_int)) (za_cons (z_ix (zv 7) (z_int)) (za_nil)))))) (zv 4)) (zw_or1 (zt_cmp zo_neI (z_lenO t.ow (call_lenO (ok_Line_len t tb) (hr.mono (by decide)) t.ow (bd_Line_len t)) (by rfl) t.b_len (by decide +kernel) (za_cons (zv 9) (za_nil))) (z_op zo_sub (z_lenO t.ow (call_lenO (ok_Line_len t tb) (hr.mono (by decide)) t.ow (bd_Line_len t)) (by rfl) t.b_len (by decide +kernel) (za_cons (zv 4) (za_nil))) (z_int))))).pt) (zs_one (z_ret (z_bl))) (zs_nil)) (zs_cons (z_if ((zw_or (zt_cmpO t.ow (op_neO (ok_Line_eq t tb) (hr.mono (by decide)) t.ow (bd_Line_eq t)) (z_methV0 (pe_methR0 (zv 9) t.cl t.m_without (ok_Line_without t tb) (hr.mono (by decide)) pass0)) (z_methV (pe_methR (zv 4) t.cl t.m_without (ok_Line_without t tb) (hr.mono (by decide)) pass0 (za_cons (z_ix (zv 7) (z_int)) (za_cons (z_ix (zv 7) (z_int)) (za_nil)))))) (zw_or1 (zt_cmp zo_gt (z_call (ok_count t tb) (hr.mono (by decide)) (by rfl) t.g_count t.k_count (bd_count t) .nil (fun _ _ => .nil) (za_cons (zv 4) (za_nil))) (z_op zo_mulA (z_call (ok_count t tb) (hr.mono (by decide)) (by rfl) t.g_count t.k_count (bd_count t) .nil (fun _ _ => .nil) (za_cons (zv 9) (za_nil))) (zv 1))))).pt) (zs_one (z_ret (z_bl))) (zs_nil)) (zs_cons (z_if (zt_cmp zo_gt (zv 5) (z_int)) (zs_cons (z_set (i := 10) sc_law_right.nd rfl (Or.inl rfl) (z_call (ok_plan_at t tb) (hr.mono (by decide)) (by rfl) t.g_plan_at t.k_plan_at (bd_plan_at t) .nil (fun _ _ => .nil) (za_cons (zv 4) (za_cons (z_callR (ok_law_draw t tb) (hr.mono (by decide)) (by rfl) t.g__law_draw t.k__law_draw (bd_law_draw t) (pa_cons (pv 0) (za_cons (zv 5) (za_nil)))) (za_nil))))) (zs_one (z_if ((zw_or (zt_cmp zo_isnotT (z_call (ok_is_plan t tb) (hr.mono (by decide)) (by rfl) t.g_is_plan t.k_is_plan (bd_is_plan t) .nil (fun _ _ => .nil) (za_cons (zv 9) (za_cons (z_call (ok_law_less t tb) (hr.mono (by decide)) (by rfl) t.g__law_less t.k__law_less (bd_law_less t) .nil (fun _ _ => .nil) (za_cons (zv 10) (za_cons (z_ix (zv 7) (z_int)) (za_nil)))) (za_nil)))) (z_bl)) (zw_or1 (zt_cmp zo_isnotT (z_call (ok_is_plan t tb) (hr.mono (by decide)) (by rfl) t.g_is_plan t.k_is_plan (bd_is_plan t) .nil (fun _ _ => .nil) (za_cons (zv 4) (za_cons (zv 10) (za_nil)))) (z_bl)))).pt) (zs_one (z_ret (z_bl))) (zs_nil)))) (zs_nil)) (zs_cons (z_set (i := 11) sc_law_right.nd rfl (Or.inl rfl) (z_methV (pe_methR (zv 4) t.cl t.m_without (ok_Line_without t tb) (hr.mono (by decide)) pass0 (za_cons (z_ix (zv 7) (z_int)) (za_cons (z_ix (zv 8) (z_int)) (za_nil)))))) (zs_one (z_if ((zw_and (zt_cmp (zo_ne hr.units) (zv 7) (zv 8)) (zw_and1 (zt_cmpO t.ow (op_neO (ok_Line_eq t tb) (hr.mono (by decide)) t.ow (bd_Line_eq t)) (zv 11) (z_methV (pe_methR (z_methV (pe_methR (zv 4) t.cl t.m_without (ok_Line_without t tb) (hr.mono (by decide)) pass0 (za_cons (z_ix (zv 8) (z_int)) (za_nil)))) t.cl t.m_without (ok_Line_without t tb) (hr.mono (by decide)) pass0 (za_cons (z_ix (zv 7) (z_int)) (za_nil))))))).pt) (zs_one (z_ret (z_bl))) (zs_nil)))))))))) (zs_cons (z_setLc (own := [(("_law_letter" : Str), 14)]) (i := 12) (ps_setLc (own := [(("_law_letter" : Str), 14)]) rfl sc_law_right.nd (i := 12) rfl rfl rfl (zi_str (z_str)) (blkOk_by (own := [(("_law_letter" : Str), 14)]) (N := N_law_right) (sc := defScope s_law_right) (by decide +kernel)) (fun _ _ _ _ _ => zgw_name (by decide) (pg_name (i := 14) sc_law_right.nd rfl (Or.inl rfl))) (fun _ _ _ _ _ => zts_nil) (fun _ _ _ _ _ => z_op zo_add (z_str) (zv 14)))) (zs_cons (z_set (i := 13) sc_law_right.nd rfl (Or.inl rfl) (z_ix (z_val (zf_lc (own := [(("_law_word" : Str), 15)]) (pe_lc (own := [(("_law_word" : Str), 15)]) rfl sc_law_right.nd (zi_list (zv 12)) (blkOk_by (own := [(("_law_word" : Str), 15)]) (N := N_law_right) (sc := defScope s_law_right) (by decide +kernel)) (fun _ _ _ _ _ => zgw_name (by decide) (pg_name (i := 15) sc_law_right.nd rfl (Or.inl rfl))) (fun _ _ _ _ _ => zts_one (zt_cmp zo_notInL (zv 15) (zv 2))) (fun _ _ _ _ _ => zv 15)))) (z_int))) (zs_one (z_ret (z_cmp zo_eqI (z_call (ok_count t tb) (hr.mono (by decide)) (by rfl) t.g_count t.k_count (bd_count t) .nil (fun _ _ => .nil) (za_cons (z_methP (fun _ _ => .nil) (pe_meth (zv 4) t.cl t.m_added (ok_Line_added t tb) (hr.mono (by decide)) (bd_Line_added t) .nil pass0 (za_cons (zv 13) (za_cons (z_op zo_pow (z_int) (z_int)) (za_cons (z_op zo_add (z_op zo_pow (z_int) (z_int)) (z_int)) (za_nil)))))) (za_nil))) (z_op zo_mulA (zv 5) (zv 1)))))))))), fun _ _ _ h => rd_law_right h⟩
theorem bd_law (t : Tx K mg a) : Binds K a.d_law [("_law_script" : Str)] [] := t.F_law.binds fun _ _ _ _ _ _ us hl => match us, hl with | [_], _ => rfl
theorem ok_law (t : Tx K mg a) (tb : LamX.TabB base mg a.cL a.tL) : FnOk P w K mg base CX0 12 a.f_law a.d_law [("_law_script" : Str)] (upSp K (TT a) (sp_law K a.CLine)) :=
  okP t.F_law sc_law (fun _ _ h => len_law h) (by decide) fun cdv A outer s H E hr => ⟨ts_law K a.CLine, zs_one (z_ret (z_callB (zc_all rfl) (by rfl) t.b_all (by decide +kernel) (za_cons (z_val (zf_lc (own := [(("_law_k" : Str), 1)]) (pe_lc (own := [(("_law_k" : Str), 1)]) rfl sc_law.nd (zi_range1 (by rfl) t.b_range (z_callB (zc_max2 rfl) (by rfl) t.b_max (by decide +kernel) (za_cons (z_int) (za_cons (z_callB (zc_min2 rfl) (by rfl) t.b_min (by decide +kernel) (za_cons (z_callB zc_len (by rfl) t.b_len (by decide +kernel) (za_cons (zv 0) (za_nil))) (za_cons (z_int) (za_nil)))) (za_nil))))) (blkOk_by (own := [(("_law_k" : Str), 1)]) (N := N_law) (sc := defScope s_law) (by decide +kernel)) (fun _ _ _ _ _ => zgw_name (by decide) (pg_name (i := 1) sc_law.nd rfl (Or.inl rfl))) (fun _ _ _ _ _ => zts_nil) (fun _ _ _ _ _ => z_callRF (ok_law_right t tb) (hr.mono (by decide)) (by rfl) t.g__law_right t.k__law_right (bd_law_right t) (pa_cons (z_callF (ok_law_pool t tb) (hr.mono (by decide)) (by rfl) t.g__law_pool t.k__law_pool (bd_law_pool t) (za_cons (z_call (ok_law_cell t tb) (hr.mono (by decide)) (by rfl) t.g__law_cell t.k__law_cell (bd_law_cell t) .nil (fun _ _ => .nil) (za_cons (zv 0) (za_cons (zv 1) (za_nil)))) (za_nil))) (za_nil)))))) (za_nil)))), fun _ _ h => rd_law h⟩
end
end ZK
set_option Elab.async false
set_option linter.all false
set_option maxRecDepth 100000
set_option maxHeartbeats 4000000
namespace ZK
open PySem PySem.Spec L2 Z
open PyProof.Rows hiding St
theorem law_mk {l : PySem.W.OpenLaw} {w : World} {K : PySem.W.Frag} {h : Heap} {mg : Str → Option Value} {fa CLine cL tL eL qT qC TD f_is_integer f_is_station f_is_later f_is_trip_name f_is_trip f_is_pair f_is_seat f_check_seats f_check_stations f_valid_beginning f_load_of f_trip_named f_Line_capacity f_Line_trips f_Line_load f_Line_walk f_Line_len f_Line_str f_Line_init f_Line_eq f_Line_added f_Line_without f_meet f_seats_left f_plan_of f_check_line f_names_trip_and_seat f_valid_pairs f_is_plan f_overfull f_choices f_count f_digits_of f_numbered f_plan_at f_law_cell f_law_pool f_law_draw f_law_words f_law_far f_law_rides f_law_less f_law_right f_law : Addr}  {rT : List Value} {rC : List Value}
    {oc_is_integer kV_is_integer dc_is_integer pm_is_integer cd_is_integer ct_is_integer : Value} {od_is_integer an_is_integer : Option Addr} {sl_is_integer : Array (Option Value)} {oc_is_station kV_is_station dc_is_station pm_is_station cd_is_station ct_is_station : Value} {od_is_station an_is_station : Option Addr} {sl_is_station : Array (Option Value)} {oc_is_later kV_is_later dc_is_later pm_is_later cd_is_later ct_is_later : Value} {od_is_later an_is_later : Option Addr} {sl_is_later : Array (Option Value)} {oc_is_trip_name kV_is_trip_name dc_is_trip_name pm_is_trip_name cd_is_trip_name ct_is_trip_name : Value} {od_is_trip_name an_is_trip_name : Option Addr} {sl_is_trip_name : Array (Option Value)} {oc_is_trip kV_is_trip dc_is_trip pm_is_trip cd_is_trip ct_is_trip : Value} {od_is_trip an_is_trip : Option Addr} {sl_is_trip : Array (Option Value)} {oc_is_pair kV_is_pair dc_is_pair pm_is_pair cd_is_pair ct_is_pair : Value} {od_is_pair an_is_pair : Option Addr} {sl_is_pair : Array (Option Value)} {oc_is_seat kV_is_seat dc_is_seat pm_is_seat cd_is_seat ct_is_seat : Value} {od_is_seat an_is_seat : Option Addr} {sl_is_seat : Array (Option Value)} {oc_check_seats kV_check_seats dc_check_seats pm_check_seats cd_check_seats ct_check_seats : Value} {od_check_seats an_check_seats : Option Addr} {sl_check_seats : Array (Option Value)} {oc_check_stations kV_check_stations dc_check_stations pm_check_stations cd_check_stations ct_check_stations : Value} {od_check_stations an_check_stations : Option Addr} {sl_check_stations : Array (Option Value)} {oc_valid_beginning kV_valid_beginning dc_valid_beginning pm_valid_beginning cd_valid_beginning ct_valid_beginning : Value} {od_valid_beginning an_valid_beginning : Option Addr} {sl_valid_beginning : Array (Option Value)} {oc_load_of kV_load_of dc_load_of pm_load_of cd_load_of ct_load_of : Value} {od_load_of an_load_of : Option Addr} {sl_load_of : Array (Option Value)} {oc_trip_named kV_trip_named dc_trip_named pm_trip_named cd_trip_named ct_trip_named : Value} {od_trip_named an_trip_named : Option Addr} {sl_trip_named : Array (Option Value)} {oc_Line_capacity kV_Line_capacity dc_Line_capacity pm_Line_capacity cd_Line_capacity ct_Line_capacity : Value} {od_Line_capacity an_Line_capacity : Option Addr} {sl_Line_capacity : Array (Option Value)} {oc_Line_trips kV_Line_trips dc_Line_trips pm_Line_trips cd_Line_trips ct_Line_trips : Value} {od_Line_trips an_Line_trips : Option Addr} {sl_Line_trips : Array (Option Value)} {oc_Line_load kV_Line_load dc_Line_load pm_Line_load cd_Line_load ct_Line_load : Value} {od_Line_load an_Line_load : Option Addr} {sl_Line_load : Array (Option Value)} {oc_Line_walk kV_Line_walk dc_Line_walk pm_Line_walk cd_Line_walk ct_Line_walk : Value} {od_Line_walk an_Line_walk : Option Addr} {sl_Line_walk : Array (Option Value)} {oc_Line_len kV_Line_len dc_Line_len pm_Line_len cd_Line_len ct_Line_len : Value} {od_Line_len an_Line_len : Option Addr} {sl_Line_len : Array (Option Value)} {oc_Line_str kV_Line_str dc_Line_str pm_Line_str cd_Line_str ct_Line_str : Value} {od_Line_str an_Line_str : Option Addr} {sl_Line_str : Array (Option Value)} {oc_Line_init kV_Line_init dc_Line_init pm_Line_init  ct_Line_init : Value} {od_Line_init an_Line_init : Option Addr} {sl_Line_init : Array (Option Value)} {oTD oEL oCL : Option Addr} {nTD nEL : Nat} {slT slE slC : Array (Option Value)} {cvs : Array Value} {oc_Line_eq kV_Line_eq dc_Line_eq pm_Line_eq cd_Line_eq ct_Line_eq : Value} {od_Line_eq an_Line_eq : Option Addr} {sl_Line_eq : Array (Option Value)} {oc_Line_added kV_Line_added dc_Line_added pm_Line_added cd_Line_added ct_Line_added : Value} {od_Line_added an_Line_added : Option Addr} {sl_Line_added : Array (Option Value)} {oc_Line_without kV_Line_without dc_Line_without pm_Line_without cd_Line_without ct_Line_without : Value} {od_Line_without an_Line_without : Option Addr} {sl_Line_without : Array (Option Value)} {oc_meet kV_meet dc_meet pm_meet cd_meet ct_meet : Value} {od_meet an_meet : Option Addr} {sl_meet : Array (Option Value)} {oc_seats_left kV_seats_left dc_seats_left pm_seats_left cd_seats_left ct_seats_left : Value} {od_seats_left an_seats_left : Option Addr} {sl_seats_left : Array (Option Value)} {oc_plan_of kV_plan_of dc_plan_of pm_plan_of cd_plan_of ct_plan_of : Value} {od_plan_of an_plan_of : Option Addr} {sl_plan_of : Array (Option Value)} {oc_check_line kV_check_line dc_check_line pm_check_line cd_check_line ct_check_line : Value} {od_check_line an_check_line : Option Addr} {sl_check_line : Array (Option Value)} {oc_names_trip_and_seat kV_names_trip_and_seat dc_names_trip_and_seat pm_names_trip_and_seat cd_names_trip_and_seat ct_names_trip_and_seat : Value} {od_names_trip_and_seat an_names_trip_and_seat : Option Addr} {sl_names_trip_and_seat : Array (Option Value)} {oc_valid_pairs kV_valid_pairs dc_valid_pairs pm_valid_pairs cd_valid_pairs ct_valid_pairs : Value} {od_valid_pairs an_valid_pairs : Option Addr} {sl_valid_pairs : Array (Option Value)} {oc_is_plan kV_is_plan dc_is_plan pm_is_plan cd_is_plan ct_is_plan : Value} {od_is_plan an_is_plan : Option Addr} {sl_is_plan : Array (Option Value)} {oc_overfull kV_overfull dc_overfull pm_overfull cd_overfull ct_overfull : Value} {od_overfull an_overfull : Option Addr} {sl_overfull : Array (Option Value)} {oc_choices kV_choices dc_choices pm_choices cd_choices ct_choices : Value} {od_choices an_choices : Option Addr} {sl_choices : Array (Option Value)} {oc_count kV_count dc_count pm_count cd_count ct_count : Value} {od_count an_count : Option Addr} {sl_count : Array (Option Value)} {oc_digits_of kV_digits_of dc_digits_of pm_digits_of cd_digits_of ct_digits_of : Value} {od_digits_of an_digits_of : Option Addr} {sl_digits_of : Array (Option Value)} {oc_numbered kV_numbered dc_numbered pm_numbered cd_numbered ct_numbered : Value} {od_numbered an_numbered : Option Addr} {sl_numbered : Array (Option Value)} {oc_plan_at kV_plan_at dc_plan_at pm_plan_at cd_plan_at ct_plan_at : Value} {od_plan_at an_plan_at : Option Addr} {sl_plan_at : Array (Option Value)} {oc_law_cell kV_law_cell dc_law_cell pm_law_cell cd_law_cell ct_law_cell : Value} {od_law_cell an_law_cell : Option Addr} {sl_law_cell : Array (Option Value)} {oc_law_pool kV_law_pool dc_law_pool pm_law_pool cd_law_pool ct_law_pool : Value} {od_law_pool an_law_pool : Option Addr} {sl_law_pool : Array (Option Value)} {oc_law_draw kV_law_draw dc_law_draw pm_law_draw cd_law_draw ct_law_draw : Value} {od_law_draw an_law_draw : Option Addr} {sl_law_draw : Array (Option Value)} {oc_law_words kV_law_words dc_law_words pm_law_words cd_law_words ct_law_words : Value} {od_law_words an_law_words : Option Addr} {sl_law_words : Array (Option Value)} {oc_law_far kV_law_far dc_law_far pm_law_far cd_law_far ct_law_far : Value} {od_law_far an_law_far : Option Addr} {sl_law_far : Array (Option Value)} {oc_law_rides kV_law_rides dc_law_rides pm_law_rides cd_law_rides ct_law_rides : Value} {od_law_rides an_law_rides : Option Addr} {sl_law_rides : Array (Option Value)} {oc_law_less kV_law_less dc_law_less pm_law_less cd_law_less ct_law_less : Value} {od_law_less an_law_less : Option Addr} {sl_law_less : Array (Option Value)} {oc_law_right kV_law_right dc_law_right pm_law_right cd_law_right ct_law_right : Value} {od_law_right an_law_right : Option Addr} {sl_law_right : Array (Option Value)} {oc_law kV_law dc_law pm_law cd_law ct_law : Value} {od_law an_law : Option Addr} {sl_law : Array (Option Value)} {tv_LETTERS : Tok} {tv_LONGEST_NAME : Tok} {tv_MAX_SEATS : Tok} {tv_MAX_TRIPS : Tok}
    (X : K.In h) (G : h.Ns mainGlobals mg) (hfa : mg "law" = some (.ref fa))
    (hC : PySem.W.nsIn K mainGlobals "Line" = some (some (.ref CLine)))
    (c1 : PySem.W.plainGet K CLine Str.empty = true)
    (c2 : PySem.W.hasDictIn K CLine = true)
    (c3 : PySem.W.plainOver K CLine = true)
    (c4 : PySem.W.findIn K (.ref CLine) "__setattr__" = some (some (.builtin "object.__setattr__")))
    (t1 : PySem.W.findIn K (.ref CLine) "__class__" = some (some (.builtin "object.__class__")))
    (t2 : PySem.W.specialIn K (.builtin "object.__class__") "__get__" = some (some (.builtin "getset_descriptor.__get__")))
    (t3 : PySem.W.takesIn K (.builtin "object.__class__") = some true)
    (t4 : PySem.W.mroIn K CLine (.type "object") = some true)
    (t5 : PySem.W.kitOne K (.ref CLine) (.ref CLine) = some true)
    (ty0 : PySem.W.kitOne K (.ref CLine) (.type "int") = some false)
    (ty1 : PySem.W.kitOne K (.ref CLine) (.type "bool") = some false)
    (ty2 : PySem.W.kitOne K (.ref CLine) (.type "str") = some false)
    (ty3 : PySem.W.kitOne K (.ref CLine) (.type "tuple") = some false)
    (ty4 : PySem.W.kitOne K (.ref CLine) (.type "list") = some false)
    (ty5 : PySem.W.kitOne K (.ref CLine) (.type "dict") = some false)
    (no0 : PySem.W.kitOne K (.type "NoneType") (.ref CLine) = some false)
    (no1 : PySem.W.kitOne K (.type "int") (.ref CLine) = some false)
    (no2 : PySem.W.kitOne K (.type "bool") (.ref CLine) = some false)
    (no3 : PySem.W.kitOne K (.type "str") (.ref CLine) = some false)
    (no4 : PySem.W.kitOne K (.type "tuple") (.ref CLine) = some false)
    (no5 : PySem.W.kitOne K (.type "list") (.ref CLine) = some false)
    (no6 : PySem.W.kitOne K (.type "dict") (.ref CLine) = some false)
    (m1 : PySem.W.makesIn K CLine = true)
    (m2 : PySem.W.findIn K (.ref CLine) "__init__" = some (some (.ref f_Line_init)))
    (m3 : PySem.W.isFn K (.ref f_Line_init) = true)
    (m4 : PySem.W.keepIn K (.ref CLine) = true)
    (u1 : PySem.W.findIn K (.ref CLine) "capacity" = some (some (.ref qC)))
    (u2 : PySem.W.specialIn K (.ref qC) "__get__" = some (some (.builtin "property.__get__")))
    (u3 : PySem.W.takesIn K (.ref qC) = some true)
    (u4 : PySem.W.recIn K qC "property" = some (.ref f_Line_capacity :: rC))
    (w1_load : PySem.W.findIn K (.ref CLine) "load" = some (some (.ref f_Line_load)))
    (w2_load : PySem.W.isFn K (.ref f_Line_load) = true)
    (w1_walk : PySem.W.findIn K (.ref CLine) "walk" = some (some (.ref f_Line_walk)))
    (w2_walk : PySem.W.isFn K (.ref f_Line_walk) = true)
    (w1_added : PySem.W.findIn K (.ref CLine) "added" = some (some (.ref f_Line_added)))
    (w2_added : PySem.W.isFn K (.ref f_Line_added) = true)
    (w1_without : PySem.W.findIn K (.ref CLine) "without" = some (some (.ref f_Line_without)))
    (w2_without : PySem.W.isFn K (.ref f_Line_without) = true)
    (x1 : PySem.W.findIn K (.ref CLine) "__eq__" = some (some (.ref f_Line_eq)))
    (x1f : PySem.W.isFn K (.ref f_Line_eq) = true)
    (x2 : PySem.W.findIn K (.ref CLine) "__len__" = some (some (.ref f_Line_len)))
    (x2f : PySem.W.isFn K (.ref f_Line_len) = true)
    (x3 : PySem.W.findIn K (.ref CLine) "__str__" = some (some (.ref f_Line_str)))
    (x3f : PySem.W.isFn K (.ref f_Line_str) = true)
    (x4 : PySem.W.findIn K (.ref CLine) "__ne__" = some (some (.builtin "object.__ne__")))
    (x5 : PySem.W.findIn K (.ref CLine) "__bool__" = some none)
    (nf0 : PySem.W.notFirst K CLine (.type "NoneType") = true)
    (nf1 : PySem.W.notFirst K CLine (.type "int") = true)
    (nf2 : PySem.W.notFirst K CLine (.type "bool") = true)
    (nf3 : PySem.W.notFirst K CLine (.type "str") = true)
    (nf4 : PySem.W.notFirst K CLine (.type "tuple") = true)
    (nf5 : PySem.W.notFirst K CLine (.type "list") = true)
    (nf6 : PySem.W.notFirst K CLine (.type "dict") = true)
    (q1 : PySem.W.findIn K (.ref CLine) "trips" = some (some (.ref qT)))
    (q2 : PySem.W.specialIn K (.ref qT) "__get__" = some (some (.builtin "property.__get__")))
    (q3 : PySem.W.takesIn K (.ref qT) = some true)
    (q4 : PySem.W.recIn K qT "property" = some (.ref f_Line_trips :: rT))
    (n_seat_count : PySem.W.findIn K (.ref CLine) "seat_count" = some none)
    (n_rows : PySem.W.findIn K (.ref CLine) "rows" = some none)
    (n_queue : PySem.W.findIn K (.ref CLine) "queue" = some none)
    (a_is_integer : PySem.W.nsIn K mainGlobals "is_integer" = some (some (.ref f_is_integer)))
    (l_is_integer : K.lookup f_is_integer = some ⟨oc_is_integer, od_is_integer, .func (PySem.W.fnOf "is_integer" "is_integer" (defArgs s_is_integer) (defBody s_is_integer) (defScope s_is_integer) .none kV_is_integer dc_is_integer pm_is_integer an_is_integer cd_is_integer ct_is_integer), sl_is_integer⟩)
    (e_is_integer : PySem.W.codeIn K cd_is_integer "is_integer" = true)
    (k_is_integer : PySem.W.keepIn K (.ref f_is_integer) = true)
    (a_is_station : PySem.W.nsIn K mainGlobals "is_station" = some (some (.ref f_is_station)))
    (l_is_station : K.lookup f_is_station = some ⟨oc_is_station, od_is_station, .func (PySem.W.fnOf "is_station" "is_station" (defArgs s_is_station) (defBody s_is_station) (defScope s_is_station) .none kV_is_station dc_is_station pm_is_station an_is_station cd_is_station ct_is_station), sl_is_station⟩)
    (e_is_station : PySem.W.codeIn K cd_is_station "is_station" = true)
    (k_is_station : PySem.W.keepIn K (.ref f_is_station) = true)
    (a_is_later : PySem.W.nsIn K mainGlobals "is_later" = some (some (.ref f_is_later)))
    (l_is_later : K.lookup f_is_later = some ⟨oc_is_later, od_is_later, .func (PySem.W.fnOf "is_later" "is_later" (defArgs s_is_later) (defBody s_is_later) (defScope s_is_later) .none kV_is_later dc_is_later pm_is_later an_is_later cd_is_later ct_is_later), sl_is_later⟩)
    (e_is_later : PySem.W.codeIn K cd_is_later "is_later" = true)
    (k_is_later : PySem.W.keepIn K (.ref f_is_later) = true)
    (a_is_trip_name : PySem.W.nsIn K mainGlobals "is_trip_name" = some (some (.ref f_is_trip_name)))
    (l_is_trip_name : K.lookup f_is_trip_name = some ⟨oc_is_trip_name, od_is_trip_name, .func (PySem.W.fnOf "is_trip_name" "is_trip_name" (defArgs s_is_trip_name) (defBody s_is_trip_name) (defScope s_is_trip_name) .none kV_is_trip_name dc_is_trip_name pm_is_trip_name an_is_trip_name cd_is_trip_name ct_is_trip_name), sl_is_trip_name⟩)
    (e_is_trip_name : PySem.W.codeIn K cd_is_trip_name "is_trip_name" = true)
    (k_is_trip_name : PySem.W.keepIn K (.ref f_is_trip_name) = true)
    (a_is_trip : PySem.W.nsIn K mainGlobals "is_trip" = some (some (.ref f_is_trip)))
    (l_is_trip : K.lookup f_is_trip = some ⟨oc_is_trip, od_is_trip, .func (PySem.W.fnOf "is_trip" "is_trip" (defArgs s_is_trip) (defBody s_is_trip) (defScope s_is_trip) .none kV_is_trip dc_is_trip pm_is_trip an_is_trip cd_is_trip ct_is_trip), sl_is_trip⟩)
    (e_is_trip : PySem.W.codeIn K cd_is_trip "is_trip" = true)
    (k_is_trip : PySem.W.keepIn K (.ref f_is_trip) = true)
    (a_is_pair : PySem.W.nsIn K mainGlobals "is_pair" = some (some (.ref f_is_pair)))
    (l_is_pair : K.lookup f_is_pair = some ⟨oc_is_pair, od_is_pair, .func (PySem.W.fnOf "is_pair" "is_pair" (defArgs s_is_pair) (defBody s_is_pair) (defScope s_is_pair) .none kV_is_pair dc_is_pair pm_is_pair an_is_pair cd_is_pair ct_is_pair), sl_is_pair⟩)
    (e_is_pair : PySem.W.codeIn K cd_is_pair "is_pair" = true)
    (k_is_pair : PySem.W.keepIn K (.ref f_is_pair) = true)
    (a_is_seat : PySem.W.nsIn K mainGlobals "is_seat" = some (some (.ref f_is_seat)))
    (l_is_seat : K.lookup f_is_seat = some ⟨oc_is_seat, od_is_seat, .func (PySem.W.fnOf "is_seat" "is_seat" (defArgs s_is_seat) (defBody s_is_seat) (defScope s_is_seat) .none kV_is_seat dc_is_seat pm_is_seat an_is_seat cd_is_seat ct_is_seat), sl_is_seat⟩)
    (e_is_seat : PySem.W.codeIn K cd_is_seat "is_seat" = true)
    (k_is_seat : PySem.W.keepIn K (.ref f_is_seat) = true)
    (a_check_seats : PySem.W.nsIn K mainGlobals "check_seats" = some (some (.ref f_check_seats)))
    (l_check_seats : K.lookup f_check_seats = some ⟨oc_check_seats, od_check_seats, .func (PySem.W.fnOf "check_seats" "check_seats" (defArgs s_check_seats) (defBody s_check_seats) (defScope s_check_seats) .none kV_check_seats dc_check_seats pm_check_seats an_check_seats cd_check_seats ct_check_seats), sl_check_seats⟩)
    (e_check_seats : PySem.W.codeIn K cd_check_seats "check_seats" = true)
    (k_check_seats : PySem.W.keepIn K (.ref f_check_seats) = true)
    (a_check_stations : PySem.W.nsIn K mainGlobals "check_stations" = some (some (.ref f_check_stations)))
    (l_check_stations : K.lookup f_check_stations = some ⟨oc_check_stations, od_check_stations, .func (PySem.W.fnOf "check_stations" "check_stations" (defArgs s_check_stations) (defBody s_check_stations) (defScope s_check_stations) .none kV_check_stations dc_check_stations pm_check_stations an_check_stations cd_check_stations ct_check_stations), sl_check_stations⟩)
    (e_check_stations : PySem.W.codeIn K cd_check_stations "check_stations" = true)
    (k_check_stations : PySem.W.keepIn K (.ref f_check_stations) = true)
    (a_valid_beginning : PySem.W.nsIn K mainGlobals "valid_beginning" = some (some (.ref f_valid_beginning)))
    (l_valid_beginning : K.lookup f_valid_beginning = some ⟨oc_valid_beginning, od_valid_beginning, .func (PySem.W.fnOf "valid_beginning" "valid_beginning" (defArgs s_valid_beginning) (defBody s_valid_beginning) (defScope s_valid_beginning) .none kV_valid_beginning dc_valid_beginning pm_valid_beginning an_valid_beginning cd_valid_beginning ct_valid_beginning), sl_valid_beginning⟩)
    (e_valid_beginning : PySem.W.codeIn K cd_valid_beginning "valid_beginning" = true)
    (k_valid_beginning : PySem.W.keepIn K (.ref f_valid_beginning) = true)
    (a_load_of : PySem.W.nsIn K mainGlobals "load_of" = some (some (.ref f_load_of)))
    (l_load_of : K.lookup f_load_of = some ⟨oc_load_of, od_load_of, .func (PySem.W.fnOf "load_of" "load_of" (defArgs s_load_of) (defBody s_load_of) (defScope s_load_of) .none kV_load_of dc_load_of pm_load_of an_load_of cd_load_of ct_load_of), sl_load_of⟩)
    (e_load_of : PySem.W.codeIn K cd_load_of "load_of" = true)
    (k_load_of : PySem.W.keepIn K (.ref f_load_of) = true)
    (a_trip_named : PySem.W.nsIn K mainGlobals "trip_named" = some (some (.ref f_trip_named)))
    (l_trip_named : K.lookup f_trip_named = some ⟨oc_trip_named, od_trip_named, .func (PySem.W.fnOf "trip_named" "trip_named" (defArgs s_trip_named) (defBody s_trip_named) (defScope s_trip_named) .none kV_trip_named dc_trip_named pm_trip_named an_trip_named cd_trip_named ct_trip_named), sl_trip_named⟩)
    (e_trip_named : PySem.W.codeIn K cd_trip_named "trip_named" = true)
    (k_trip_named : PySem.W.keepIn K (.ref f_trip_named) = true)
    (l_Line_capacity : K.lookup f_Line_capacity = some ⟨oc_Line_capacity, od_Line_capacity, .func (PySem.W.fnOf "capacity" "Line.capacity" (defArgs s_Line_capacity) (defBody s_Line_capacity) (defScope s_Line_capacity) .none kV_Line_capacity dc_Line_capacity pm_Line_capacity an_Line_capacity cd_Line_capacity ct_Line_capacity), sl_Line_capacity⟩)
    (e_Line_capacity : PySem.W.codeIn K cd_Line_capacity "Line.capacity" = true)
    (k_Line_capacity : PySem.W.keepIn K (.ref f_Line_capacity) = true)
    (l_Line_trips : K.lookup f_Line_trips = some ⟨oc_Line_trips, od_Line_trips, .func (PySem.W.fnOf "trips" "Line.trips" (defArgs s_Line_trips) (defBody s_Line_trips) (defScope s_Line_trips) .none kV_Line_trips dc_Line_trips pm_Line_trips an_Line_trips cd_Line_trips ct_Line_trips), sl_Line_trips⟩)
    (e_Line_trips : PySem.W.codeIn K cd_Line_trips "Line.trips" = true)
    (k_Line_trips : PySem.W.keepIn K (.ref f_Line_trips) = true)
    (l_Line_load : K.lookup f_Line_load = some ⟨oc_Line_load, od_Line_load, .func (PySem.W.fnOf "load" "Line.load" (defArgs s_Line_load) (defBody s_Line_load) (defScope s_Line_load) .none kV_Line_load dc_Line_load pm_Line_load an_Line_load cd_Line_load ct_Line_load), sl_Line_load⟩)
    (e_Line_load : PySem.W.codeIn K cd_Line_load "Line.load" = true)
    (k_Line_load : PySem.W.keepIn K (.ref f_Line_load) = true)
    (l_Line_walk : K.lookup f_Line_walk = some ⟨oc_Line_walk, od_Line_walk, .func (PySem.W.fnOf "walk" "Line.walk" (defArgs s_Line_walk) (defBody s_Line_walk) (defScope s_Line_walk) .none kV_Line_walk dc_Line_walk pm_Line_walk an_Line_walk cd_Line_walk ct_Line_walk), sl_Line_walk⟩)
    (e_Line_walk : PySem.W.codeIn K cd_Line_walk "Line.walk" = true)
    (k_Line_walk : PySem.W.keepIn K (.ref f_Line_walk) = true)
    (l_Line_len : K.lookup f_Line_len = some ⟨oc_Line_len, od_Line_len, .func (PySem.W.fnOf "__len__" "Line.__len__" (defArgs s_Line_len) (defBody s_Line_len) (defScope s_Line_len) .none kV_Line_len dc_Line_len pm_Line_len an_Line_len cd_Line_len ct_Line_len), sl_Line_len⟩)
    (e_Line_len : PySem.W.codeIn K cd_Line_len "Line.__len__" = true)
    (k_Line_len : PySem.W.keepIn K (.ref f_Line_len) = true)
    (l_Line_str : K.lookup f_Line_str = some ⟨oc_Line_str, od_Line_str, .func (PySem.W.fnOf "__str__" "Line.__str__" (defArgs s_Line_str) (defBody s_Line_str) (defScope s_Line_str) .none kV_Line_str dc_Line_str pm_Line_str an_Line_str cd_Line_str ct_Line_str), sl_Line_str⟩)
    (e_Line_str : PySem.W.codeIn K cd_Line_str "Line.__str__" = true)
    (k_Line_str : PySem.W.keepIn K (.ref f_Line_str) = true)
    (l_Line_init : K.lookup f_Line_init = some ⟨oc_Line_init, od_Line_init, .func (PySem.W.fnOf "__init__" "Line.__init__" (defArgs s_Line_init) (defBody s_Line_init) (defScope s_Line_init) (.ref TD) kV_Line_init dc_Line_init pm_Line_init an_Line_init (.ref cL) ct_Line_init), sl_Line_init⟩)
    (e_Line_init : PySem.W.codeIn K (.ref cL) "Line.__init__" = true)
    (k_Line_init : PySem.W.keepIn K (.ref f_Line_init) = true)
    (w1 : K.lookup TD = some ⟨.type "tuple", oTD, .seq #[.ref eL] nTD, slT⟩)
    (w2 : K.lookup eL = some ⟨.type "tuple", oEL, .seq #[] nEL, slE⟩)
    (w3 : K.lookup cL = some ⟨.type "code", oCL, .fields cvs, slC⟩)
    (w4 : (cvs[11]? : Option Value) = some (.ref tL))
    (w5 : PySem.W.codeHdIn K cL tL = true)
    (w6 : K.lookup tL = none)
    (l_Line_eq : K.lookup f_Line_eq = some ⟨oc_Line_eq, od_Line_eq, .func (PySem.W.fnOf "__eq__" "Line.__eq__" (defArgs s_Line_eq) (defBody s_Line_eq) (defScope s_Line_eq) .none kV_Line_eq dc_Line_eq pm_Line_eq an_Line_eq cd_Line_eq ct_Line_eq), sl_Line_eq⟩)
    (e_Line_eq : PySem.W.codeIn K cd_Line_eq "Line.__eq__" = true)
    (k_Line_eq : PySem.W.keepIn K (.ref f_Line_eq) = true)
    (l_Line_added : K.lookup f_Line_added = some ⟨oc_Line_added, od_Line_added, .func (PySem.W.fnOf "added" "Line.added" (defArgs s_Line_added) (defBody s_Line_added) (defScope s_Line_added) .none kV_Line_added dc_Line_added pm_Line_added an_Line_added cd_Line_added ct_Line_added), sl_Line_added⟩)
    (e_Line_added : PySem.W.codeIn K cd_Line_added "Line.added" = true)
    (k_Line_added : PySem.W.keepIn K (.ref f_Line_added) = true)
    (l_Line_without : K.lookup f_Line_without = some ⟨oc_Line_without, od_Line_without, .func (PySem.W.fnOf "without" "Line.without" (defArgs s_Line_without) (defBody s_Line_without) (defScope s_Line_without) .none kV_Line_without dc_Line_without pm_Line_without an_Line_without cd_Line_without ct_Line_without), sl_Line_without⟩)
    (e_Line_without : PySem.W.codeIn K cd_Line_without "Line.without" = true)
    (k_Line_without : PySem.W.keepIn K (.ref f_Line_without) = true)
    (a_meet : PySem.W.nsIn K mainGlobals "meet" = some (some (.ref f_meet)))
    (l_meet : K.lookup f_meet = some ⟨oc_meet, od_meet, .func (PySem.W.fnOf "meet" "meet" (defArgs s_meet) (defBody s_meet) (defScope s_meet) .none kV_meet dc_meet pm_meet an_meet cd_meet ct_meet), sl_meet⟩)
    (e_meet : PySem.W.codeIn K cd_meet "meet" = true)
    (k_meet : PySem.W.keepIn K (.ref f_meet) = true)
    (a_seats_left : PySem.W.nsIn K mainGlobals "seats_left" = some (some (.ref f_seats_left)))
    (l_seats_left : K.lookup f_seats_left = some ⟨oc_seats_left, od_seats_left, .func (PySem.W.fnOf "seats_left" "seats_left" (defArgs s_seats_left) (defBody s_seats_left) (defScope s_seats_left) .none kV_seats_left dc_seats_left pm_seats_left an_seats_left cd_seats_left ct_seats_left), sl_seats_left⟩)
    (e_seats_left : PySem.W.codeIn K cd_seats_left "seats_left" = true)
    (k_seats_left : PySem.W.keepIn K (.ref f_seats_left) = true)
    (a_plan_of : PySem.W.nsIn K mainGlobals "plan_of" = some (some (.ref f_plan_of)))
    (l_plan_of : K.lookup f_plan_of = some ⟨oc_plan_of, od_plan_of, .func (PySem.W.fnOf "plan_of" "plan_of" (defArgs s_plan_of) (defBody s_plan_of) (defScope s_plan_of) .none kV_plan_of dc_plan_of pm_plan_of an_plan_of cd_plan_of ct_plan_of), sl_plan_of⟩)
    (e_plan_of : PySem.W.codeIn K cd_plan_of "plan_of" = true)
    (k_plan_of : PySem.W.keepIn K (.ref f_plan_of) = true)
    (a_check_line : PySem.W.nsIn K mainGlobals "check_line" = some (some (.ref f_check_line)))
    (l_check_line : K.lookup f_check_line = some ⟨oc_check_line, od_check_line, .func (PySem.W.fnOf "check_line" "check_line" (defArgs s_check_line) (defBody s_check_line) (defScope s_check_line) .none kV_check_line dc_check_line pm_check_line an_check_line cd_check_line ct_check_line), sl_check_line⟩)
    (e_check_line : PySem.W.codeIn K cd_check_line "check_line" = true)
    (k_check_line : PySem.W.keepIn K (.ref f_check_line) = true)
    (a_names_trip_and_seat : PySem.W.nsIn K mainGlobals "names_trip_and_seat" = some (some (.ref f_names_trip_and_seat)))
    (l_names_trip_and_seat : K.lookup f_names_trip_and_seat = some ⟨oc_names_trip_and_seat, od_names_trip_and_seat, .func (PySem.W.fnOf "names_trip_and_seat" "names_trip_and_seat" (defArgs s_names_trip_and_seat) (defBody s_names_trip_and_seat) (defScope s_names_trip_and_seat) .none kV_names_trip_and_seat dc_names_trip_and_seat pm_names_trip_and_seat an_names_trip_and_seat cd_names_trip_and_seat ct_names_trip_and_seat), sl_names_trip_and_seat⟩)
    (e_names_trip_and_seat : PySem.W.codeIn K cd_names_trip_and_seat "names_trip_and_seat" = true)
    (k_names_trip_and_seat : PySem.W.keepIn K (.ref f_names_trip_and_seat) = true)
    (a_valid_pairs : PySem.W.nsIn K mainGlobals "valid_pairs" = some (some (.ref f_valid_pairs)))
    (l_valid_pairs : K.lookup f_valid_pairs = some ⟨oc_valid_pairs, od_valid_pairs, .func (PySem.W.fnOf "valid_pairs" "valid_pairs" (defArgs s_valid_pairs) (defBody s_valid_pairs) (defScope s_valid_pairs) .none kV_valid_pairs dc_valid_pairs pm_valid_pairs an_valid_pairs cd_valid_pairs ct_valid_pairs), sl_valid_pairs⟩)
    (e_valid_pairs : PySem.W.codeIn K cd_valid_pairs "valid_pairs" = true)
    (k_valid_pairs : PySem.W.keepIn K (.ref f_valid_pairs) = true)
    (a_is_plan : PySem.W.nsIn K mainGlobals "is_plan" = some (some (.ref f_is_plan)))
    (l_is_plan : K.lookup f_is_plan = some ⟨oc_is_plan, od_is_plan, .func (PySem.W.fnOf "is_plan" "is_plan" (defArgs s_is_plan) (defBody s_is_plan) (defScope s_is_plan) .none kV_is_plan dc_is_plan pm_is_plan an_is_plan cd_is_plan ct_is_plan), sl_is_plan⟩)
    (e_is_plan : PySem.W.codeIn K cd_is_plan "is_plan" = true)
    (k_is_plan : PySem.W.keepIn K (.ref f_is_plan) = true)
    (a_overfull : PySem.W.nsIn K mainGlobals "overfull" = some (some (.ref f_overfull)))
    (l_overfull : K.lookup f_overfull = some ⟨oc_overfull, od_overfull, .func (PySem.W.fnOf "overfull" "overfull" (defArgs s_overfull) (defBody s_overfull) (defScope s_overfull) .none kV_overfull dc_overfull pm_overfull an_overfull cd_overfull ct_overfull), sl_overfull⟩)
    (e_overfull : PySem.W.codeIn K cd_overfull "overfull" = true)
    (k_overfull : PySem.W.keepIn K (.ref f_overfull) = true)
    (a_choices : PySem.W.nsIn K mainGlobals "choices" = some (some (.ref f_choices)))
    (l_choices : K.lookup f_choices = some ⟨oc_choices, od_choices, .func (PySem.W.fnOf "choices" "choices" (defArgs s_choices) (defBody s_choices) (defScope s_choices) .none kV_choices dc_choices pm_choices an_choices cd_choices ct_choices), sl_choices⟩)
    (e_choices : PySem.W.codeIn K cd_choices "choices" = true)
    (k_choices : PySem.W.keepIn K (.ref f_choices) = true)
    (a_count : PySem.W.nsIn K mainGlobals "count" = some (some (.ref f_count)))
    (l_count : K.lookup f_count = some ⟨oc_count, od_count, .func (PySem.W.fnOf "count" "count" (defArgs s_count) (defBody s_count) (defScope s_count) .none kV_count dc_count pm_count an_count cd_count ct_count), sl_count⟩)
    (e_count : PySem.W.codeIn K cd_count "count" = true)
    (k_count : PySem.W.keepIn K (.ref f_count) = true)
    (a_digits_of : PySem.W.nsIn K mainGlobals "digits_of" = some (some (.ref f_digits_of)))
    (l_digits_of : K.lookup f_digits_of = some ⟨oc_digits_of, od_digits_of, .func (PySem.W.fnOf "digits_of" "digits_of" (defArgs s_digits_of) (defBody s_digits_of) (defScope s_digits_of) .none kV_digits_of dc_digits_of pm_digits_of an_digits_of cd_digits_of ct_digits_of), sl_digits_of⟩)
    (e_digits_of : PySem.W.codeIn K cd_digits_of "digits_of" = true)
    (k_digits_of : PySem.W.keepIn K (.ref f_digits_of) = true)
    (a_numbered : PySem.W.nsIn K mainGlobals "numbered" = some (some (.ref f_numbered)))
    (l_numbered : K.lookup f_numbered = some ⟨oc_numbered, od_numbered, .func (PySem.W.fnOf "numbered" "numbered" (defArgs s_numbered) (defBody s_numbered) (defScope s_numbered) .none kV_numbered dc_numbered pm_numbered an_numbered cd_numbered ct_numbered), sl_numbered⟩)
    (e_numbered : PySem.W.codeIn K cd_numbered "numbered" = true)
    (k_numbered : PySem.W.keepIn K (.ref f_numbered) = true)
    (a_plan_at : PySem.W.nsIn K mainGlobals "plan_at" = some (some (.ref f_plan_at)))
    (l_plan_at : K.lookup f_plan_at = some ⟨oc_plan_at, od_plan_at, .func (PySem.W.fnOf "plan_at" "plan_at" (defArgs s_plan_at) (defBody s_plan_at) (defScope s_plan_at) .none kV_plan_at dc_plan_at pm_plan_at an_plan_at cd_plan_at ct_plan_at), sl_plan_at⟩)
    (e_plan_at : PySem.W.codeIn K cd_plan_at "plan_at" = true)
    (k_plan_at : PySem.W.keepIn K (.ref f_plan_at) = true)
    (a_law_cell : PySem.W.nsIn K mainGlobals "_law_cell" = some (some (.ref f_law_cell)))
    (l_law_cell : K.lookup f_law_cell = some ⟨oc_law_cell, od_law_cell, .func (PySem.W.fnOf "_law_cell" "_law_cell" (defArgs s_law_cell) (defBody s_law_cell) (defScope s_law_cell) .none kV_law_cell dc_law_cell pm_law_cell an_law_cell cd_law_cell ct_law_cell), sl_law_cell⟩)
    (e_law_cell : PySem.W.codeIn K cd_law_cell "_law_cell" = true)
    (k_law_cell : PySem.W.keepIn K (.ref f_law_cell) = true)
    (a_law_pool : PySem.W.nsIn K mainGlobals "_law_pool" = some (some (.ref f_law_pool)))
    (l_law_pool : K.lookup f_law_pool = some ⟨oc_law_pool, od_law_pool, .func (PySem.W.fnOf "_law_pool" "_law_pool" (defArgs s_law_pool) (defBody s_law_pool) (defScope s_law_pool) .none kV_law_pool dc_law_pool pm_law_pool an_law_pool cd_law_pool ct_law_pool), sl_law_pool⟩)
    (e_law_pool : PySem.W.codeIn K cd_law_pool "_law_pool" = true)
    (k_law_pool : PySem.W.keepIn K (.ref f_law_pool) = true)
    (a_law_draw : PySem.W.nsIn K mainGlobals "_law_draw" = some (some (.ref f_law_draw)))
    (l_law_draw : K.lookup f_law_draw = some ⟨oc_law_draw, od_law_draw, .func (PySem.W.fnOf "_law_draw" "_law_draw" (defArgs s_law_draw) (defBody s_law_draw) (defScope s_law_draw) .none kV_law_draw dc_law_draw pm_law_draw an_law_draw cd_law_draw ct_law_draw), sl_law_draw⟩)
    (e_law_draw : PySem.W.codeIn K cd_law_draw "_law_draw" = true)
    (k_law_draw : PySem.W.keepIn K (.ref f_law_draw) = true)
    (a_law_words : PySem.W.nsIn K mainGlobals "_law_words" = some (some (.ref f_law_words)))
    (l_law_words : K.lookup f_law_words = some ⟨oc_law_words, od_law_words, .func (PySem.W.fnOf "_law_words" "_law_words" (defArgs s_law_words) (defBody s_law_words) (defScope s_law_words) .none kV_law_words dc_law_words pm_law_words an_law_words cd_law_words ct_law_words), sl_law_words⟩)
    (e_law_words : PySem.W.codeIn K cd_law_words "_law_words" = true)
    (k_law_words : PySem.W.keepIn K (.ref f_law_words) = true)
    (a_law_far : PySem.W.nsIn K mainGlobals "_law_far" = some (some (.ref f_law_far)))
    (l_law_far : K.lookup f_law_far = some ⟨oc_law_far, od_law_far, .func (PySem.W.fnOf "_law_far" "_law_far" (defArgs s_law_far) (defBody s_law_far) (defScope s_law_far) .none kV_law_far dc_law_far pm_law_far an_law_far cd_law_far ct_law_far), sl_law_far⟩)
    (e_law_far : PySem.W.codeIn K cd_law_far "_law_far" = true)
    (k_law_far : PySem.W.keepIn K (.ref f_law_far) = true)
    (a_law_rides : PySem.W.nsIn K mainGlobals "_law_rides" = some (some (.ref f_law_rides)))
    (l_law_rides : K.lookup f_law_rides = some ⟨oc_law_rides, od_law_rides, .func (PySem.W.fnOf "_law_rides" "_law_rides" (defArgs s_law_rides) (defBody s_law_rides) (defScope s_law_rides) .none kV_law_rides dc_law_rides pm_law_rides an_law_rides cd_law_rides ct_law_rides), sl_law_rides⟩)
    (e_law_rides : PySem.W.codeIn K cd_law_rides "_law_rides" = true)
    (k_law_rides : PySem.W.keepIn K (.ref f_law_rides) = true)
    (a_law_less : PySem.W.nsIn K mainGlobals "_law_less" = some (some (.ref f_law_less)))
    (l_law_less : K.lookup f_law_less = some ⟨oc_law_less, od_law_less, .func (PySem.W.fnOf "_law_less" "_law_less" (defArgs s_law_less) (defBody s_law_less) (defScope s_law_less) .none kV_law_less dc_law_less pm_law_less an_law_less cd_law_less ct_law_less), sl_law_less⟩)
    (e_law_less : PySem.W.codeIn K cd_law_less "_law_less" = true)
    (k_law_less : PySem.W.keepIn K (.ref f_law_less) = true)
    (a_law_right : PySem.W.nsIn K mainGlobals "_law_right" = some (some (.ref f_law_right)))
    (l_law_right : K.lookup f_law_right = some ⟨oc_law_right, od_law_right, .func (PySem.W.fnOf "_law_right" "_law_right" (defArgs s_law_right) (defBody s_law_right) (defScope s_law_right) .none kV_law_right dc_law_right pm_law_right an_law_right cd_law_right ct_law_right), sl_law_right⟩)
    (e_law_right : PySem.W.codeIn K cd_law_right "_law_right" = true)
    (k_law_right : PySem.W.keepIn K (.ref f_law_right) = true)
    (a_law : PySem.W.nsIn K mainGlobals "law" = some (some (.ref f_law)))
    (l_law : K.lookup f_law = some ⟨oc_law, od_law, .func (PySem.W.fnOf "law" "law" (defArgs s_law) (defBody s_law) (defScope s_law) .none kV_law dc_law pm_law an_law cd_law ct_law), sl_law⟩)
    (e_law : PySem.W.codeIn K cd_law "law" = true)
    (k_law : PySem.W.keepIn K (.ref f_law) = true)
    (v_LETTERS : PySem.W.nsIn K mainGlobals "LETTERS" = some (some (.str ("abcdefghijklmnopqrstuvwxyz" : Str) tv_LETTERS)))
    (v_LONGEST_NAME : PySem.W.nsIn K mainGlobals "LONGEST_NAME" = some (some (.int 8 tv_LONGEST_NAME)))
    (v_MAX_SEATS : PySem.W.nsIn K mainGlobals "MAX_SEATS" = some (some (.int 20 tv_MAX_SEATS)))
    (v_MAX_TRIPS : PySem.W.nsIn K mainGlobals "MAX_TRIPS" = some (some (.int 24 tv_MAX_TRIPS)))
    (b_abs : PySem.W.nsIn K mainGlobals "abs" = some none)
    (b_all : PySem.W.nsIn K mainGlobals "all" = some none)
    (b_bool : PySem.W.nsIn K mainGlobals "bool" = some none)
    (b_divmod : PySem.W.nsIn K mainGlobals "divmod" = some none)
    (b_enumerate : PySem.W.nsIn K mainGlobals "enumerate" = some none)
    (b_int : PySem.W.nsIn K mainGlobals "int" = some none)
    (b_isinstance : PySem.W.nsIn K mainGlobals "isinstance" = some none)
    (b_len : PySem.W.nsIn K mainGlobals "len" = some none)
    (b_max : PySem.W.nsIn K mainGlobals "max" = some none)
    (b_min : PySem.W.nsIn K mainGlobals "min" = some none)
    (b_range : PySem.W.nsIn K mainGlobals "range" = some none)
    (b_reversed : PySem.W.nsIn K mainGlobals "reversed" = some none)
    (b_sorted : PySem.W.nsIn K mainGlobals "sorted" = some none)
    (b_str : PySem.W.nsIn K mainGlobals "str" = some none)
    (b_tuple : PySem.W.nsIn K mainGlobals "tuple" = some none)
    (b_zip : PySem.W.nsIn K mainGlobals "zip" = some none)
    (nl : NoList K = true)
    (ht : h.get? tL = some (PySem.W.tabObj #[]))
    : LawG l w K 12 63 "_law_script" mg fa h := by
  have e := hfa.symm.trans (PySem.W.mg_of X G a_law)
  obtain rfl : fa = f_law := Value.ref.inj (Option.some.inj e)
  let a : Ad := {
    CLine := CLine,
    cL := cL,
    tL := tL,
    eL := eL,
    qT := qT,
    qC := qC,
    pS := CLine,
    mL := .none,
    f_is_integer := f_is_integer,
    d_is_integer := PySem.W.fnOf "is_integer" "is_integer" (defArgs s_is_integer) (defBody s_is_integer) (defScope s_is_integer) .none kV_is_integer dc_is_integer pm_is_integer an_is_integer cd_is_integer ct_is_integer,
    f_is_station := f_is_station,
    d_is_station := PySem.W.fnOf "is_station" "is_station" (defArgs s_is_station) (defBody s_is_station) (defScope s_is_station) .none kV_is_station dc_is_station pm_is_station an_is_station cd_is_station ct_is_station,
    f_is_later := f_is_later,
    d_is_later := PySem.W.fnOf "is_later" "is_later" (defArgs s_is_later) (defBody s_is_later) (defScope s_is_later) .none kV_is_later dc_is_later pm_is_later an_is_later cd_is_later ct_is_later,
    f_is_trip_name := f_is_trip_name,
    d_is_trip_name := PySem.W.fnOf "is_trip_name" "is_trip_name" (defArgs s_is_trip_name) (defBody s_is_trip_name) (defScope s_is_trip_name) .none kV_is_trip_name dc_is_trip_name pm_is_trip_name an_is_trip_name cd_is_trip_name ct_is_trip_name,
    f_is_trip := f_is_trip,
    d_is_trip := PySem.W.fnOf "is_trip" "is_trip" (defArgs s_is_trip) (defBody s_is_trip) (defScope s_is_trip) .none kV_is_trip dc_is_trip pm_is_trip an_is_trip cd_is_trip ct_is_trip,
    f_is_pair := f_is_pair,
    d_is_pair := PySem.W.fnOf "is_pair" "is_pair" (defArgs s_is_pair) (defBody s_is_pair) (defScope s_is_pair) .none kV_is_pair dc_is_pair pm_is_pair an_is_pair cd_is_pair ct_is_pair,
    f_is_seat := f_is_seat,
    d_is_seat := PySem.W.fnOf "is_seat" "is_seat" (defArgs s_is_seat) (defBody s_is_seat) (defScope s_is_seat) .none kV_is_seat dc_is_seat pm_is_seat an_is_seat cd_is_seat ct_is_seat,
    f_check_seats := f_check_seats,
    d_check_seats := PySem.W.fnOf "check_seats" "check_seats" (defArgs s_check_seats) (defBody s_check_seats) (defScope s_check_seats) .none kV_check_seats dc_check_seats pm_check_seats an_check_seats cd_check_seats ct_check_seats,
    f_check_stations := f_check_stations,
    d_check_stations := PySem.W.fnOf "check_stations" "check_stations" (defArgs s_check_stations) (defBody s_check_stations) (defScope s_check_stations) .none kV_check_stations dc_check_stations pm_check_stations an_check_stations cd_check_stations ct_check_stations,
    f_valid_beginning := f_valid_beginning,
    d_valid_beginning := PySem.W.fnOf "valid_beginning" "valid_beginning" (defArgs s_valid_beginning) (defBody s_valid_beginning) (defScope s_valid_beginning) .none kV_valid_beginning dc_valid_beginning pm_valid_beginning an_valid_beginning cd_valid_beginning ct_valid_beginning,
    f_load_of := f_load_of,
    d_load_of := PySem.W.fnOf "load_of" "load_of" (defArgs s_load_of) (defBody s_load_of) (defScope s_load_of) .none kV_load_of dc_load_of pm_load_of an_load_of cd_load_of ct_load_of,
    f_trip_named := f_trip_named,
    d_trip_named := PySem.W.fnOf "trip_named" "trip_named" (defArgs s_trip_named) (defBody s_trip_named) (defScope s_trip_named) .none kV_trip_named dc_trip_named pm_trip_named an_trip_named cd_trip_named ct_trip_named,
    f_Line_capacity := f_Line_capacity,
    d_Line_capacity := PySem.W.fnOf "capacity" "Line.capacity" (defArgs s_Line_capacity) (defBody s_Line_capacity) (defScope s_Line_capacity) .none kV_Line_capacity dc_Line_capacity pm_Line_capacity an_Line_capacity cd_Line_capacity ct_Line_capacity,
    f_Line_trips := f_Line_trips,
    d_Line_trips := PySem.W.fnOf "trips" "Line.trips" (defArgs s_Line_trips) (defBody s_Line_trips) (defScope s_Line_trips) .none kV_Line_trips dc_Line_trips pm_Line_trips an_Line_trips cd_Line_trips ct_Line_trips,
    f_Line_load := f_Line_load,
    d_Line_load := PySem.W.fnOf "load" "Line.load" (defArgs s_Line_load) (defBody s_Line_load) (defScope s_Line_load) .none kV_Line_load dc_Line_load pm_Line_load an_Line_load cd_Line_load ct_Line_load,
    f_Line_walk := f_Line_walk,
    d_Line_walk := PySem.W.fnOf "walk" "Line.walk" (defArgs s_Line_walk) (defBody s_Line_walk) (defScope s_Line_walk) .none kV_Line_walk dc_Line_walk pm_Line_walk an_Line_walk cd_Line_walk ct_Line_walk,
    f_Line_len := f_Line_len,
    d_Line_len := PySem.W.fnOf "__len__" "Line.__len__" (defArgs s_Line_len) (defBody s_Line_len) (defScope s_Line_len) .none kV_Line_len dc_Line_len pm_Line_len an_Line_len cd_Line_len ct_Line_len,
    f_Line_str := f_Line_str,
    d_Line_str := PySem.W.fnOf "__str__" "Line.__str__" (defArgs s_Line_str) (defBody s_Line_str) (defScope s_Line_str) .none kV_Line_str dc_Line_str pm_Line_str an_Line_str cd_Line_str ct_Line_str,
    f_Line_init := f_Line_init,
    d_Line_init := PySem.W.fnOf "__init__" "Line.__init__" (defArgs s_Line_init) (defBody s_Line_init) (defScope s_Line_init) (.ref TD) kV_Line_init dc_Line_init pm_Line_init an_Line_init (.ref cL) ct_Line_init,
    f_Line_eq := f_Line_eq,
    d_Line_eq := PySem.W.fnOf "__eq__" "Line.__eq__" (defArgs s_Line_eq) (defBody s_Line_eq) (defScope s_Line_eq) .none kV_Line_eq dc_Line_eq pm_Line_eq an_Line_eq cd_Line_eq ct_Line_eq,
    f_Line_added := f_Line_added,
    d_Line_added := PySem.W.fnOf "added" "Line.added" (defArgs s_Line_added) (defBody s_Line_added) (defScope s_Line_added) .none kV_Line_added dc_Line_added pm_Line_added an_Line_added cd_Line_added ct_Line_added,
    f_Line_without := f_Line_without,
    d_Line_without := PySem.W.fnOf "without" "Line.without" (defArgs s_Line_without) (defBody s_Line_without) (defScope s_Line_without) .none kV_Line_without dc_Line_without pm_Line_without an_Line_without cd_Line_without ct_Line_without,
    f_meet := f_meet,
    d_meet := PySem.W.fnOf "meet" "meet" (defArgs s_meet) (defBody s_meet) (defScope s_meet) .none kV_meet dc_meet pm_meet an_meet cd_meet ct_meet,
    f_seats_left := f_seats_left,
    d_seats_left := PySem.W.fnOf "seats_left" "seats_left" (defArgs s_seats_left) (defBody s_seats_left) (defScope s_seats_left) .none kV_seats_left dc_seats_left pm_seats_left an_seats_left cd_seats_left ct_seats_left,
    f_plan_of := f_plan_of,
    d_plan_of := PySem.W.fnOf "plan_of" "plan_of" (defArgs s_plan_of) (defBody s_plan_of) (defScope s_plan_of) .none kV_plan_of dc_plan_of pm_plan_of an_plan_of cd_plan_of ct_plan_of,
    f_check_line := f_check_line,
    d_check_line := PySem.W.fnOf "check_line" "check_line" (defArgs s_check_line) (defBody s_check_line) (defScope s_check_line) .none kV_check_line dc_check_line pm_check_line an_check_line cd_check_line ct_check_line,
    f_names_trip_and_seat := f_names_trip_and_seat,
    d_names_trip_and_seat := PySem.W.fnOf "names_trip_and_seat" "names_trip_and_seat" (defArgs s_names_trip_and_seat) (defBody s_names_trip_and_seat) (defScope s_names_trip_and_seat) .none kV_names_trip_and_seat dc_names_trip_and_seat pm_names_trip_and_seat an_names_trip_and_seat cd_names_trip_and_seat ct_names_trip_and_seat,
    f_valid_pairs := f_valid_pairs,
    d_valid_pairs := PySem.W.fnOf "valid_pairs" "valid_pairs" (defArgs s_valid_pairs) (defBody s_valid_pairs) (defScope s_valid_pairs) .none kV_valid_pairs dc_valid_pairs pm_valid_pairs an_valid_pairs cd_valid_pairs ct_valid_pairs,
    f_is_plan := f_is_plan,
    d_is_plan := PySem.W.fnOf "is_plan" "is_plan" (defArgs s_is_plan) (defBody s_is_plan) (defScope s_is_plan) .none kV_is_plan dc_is_plan pm_is_plan an_is_plan cd_is_plan ct_is_plan,
    f_overfull := f_overfull,
    d_overfull := PySem.W.fnOf "overfull" "overfull" (defArgs s_overfull) (defBody s_overfull) (defScope s_overfull) .none kV_overfull dc_overfull pm_overfull an_overfull cd_overfull ct_overfull,
    f_choices := f_choices,
    d_choices := PySem.W.fnOf "choices" "choices" (defArgs s_choices) (defBody s_choices) (defScope s_choices) .none kV_choices dc_choices pm_choices an_choices cd_choices ct_choices,
    f_count := f_count,
    d_count := PySem.W.fnOf "count" "count" (defArgs s_count) (defBody s_count) (defScope s_count) .none kV_count dc_count pm_count an_count cd_count ct_count,
    f_digits_of := f_digits_of,
    d_digits_of := PySem.W.fnOf "digits_of" "digits_of" (defArgs s_digits_of) (defBody s_digits_of) (defScope s_digits_of) .none kV_digits_of dc_digits_of pm_digits_of an_digits_of cd_digits_of ct_digits_of,
    f_numbered := f_numbered,
    d_numbered := PySem.W.fnOf "numbered" "numbered" (defArgs s_numbered) (defBody s_numbered) (defScope s_numbered) .none kV_numbered dc_numbered pm_numbered an_numbered cd_numbered ct_numbered,
    f_plan_at := f_plan_at,
    d_plan_at := PySem.W.fnOf "plan_at" "plan_at" (defArgs s_plan_at) (defBody s_plan_at) (defScope s_plan_at) .none kV_plan_at dc_plan_at pm_plan_at an_plan_at cd_plan_at ct_plan_at,
    f_law_cell := f_law_cell,
    d_law_cell := PySem.W.fnOf "_law_cell" "_law_cell" (defArgs s_law_cell) (defBody s_law_cell) (defScope s_law_cell) .none kV_law_cell dc_law_cell pm_law_cell an_law_cell cd_law_cell ct_law_cell,
    f_law_pool := f_law_pool,
    d_law_pool := PySem.W.fnOf "_law_pool" "_law_pool" (defArgs s_law_pool) (defBody s_law_pool) (defScope s_law_pool) .none kV_law_pool dc_law_pool pm_law_pool an_law_pool cd_law_pool ct_law_pool,
    f_law_draw := f_law_draw,
    d_law_draw := PySem.W.fnOf "_law_draw" "_law_draw" (defArgs s_law_draw) (defBody s_law_draw) (defScope s_law_draw) .none kV_law_draw dc_law_draw pm_law_draw an_law_draw cd_law_draw ct_law_draw,
    f_law_words := f_law_words,
    d_law_words := PySem.W.fnOf "_law_words" "_law_words" (defArgs s_law_words) (defBody s_law_words) (defScope s_law_words) .none kV_law_words dc_law_words pm_law_words an_law_words cd_law_words ct_law_words,
    f_law_far := f_law_far,
    d_law_far := PySem.W.fnOf "_law_far" "_law_far" (defArgs s_law_far) (defBody s_law_far) (defScope s_law_far) .none kV_law_far dc_law_far pm_law_far an_law_far cd_law_far ct_law_far,
    f_law_rides := f_law_rides,
    d_law_rides := PySem.W.fnOf "_law_rides" "_law_rides" (defArgs s_law_rides) (defBody s_law_rides) (defScope s_law_rides) .none kV_law_rides dc_law_rides pm_law_rides an_law_rides cd_law_rides ct_law_rides,
    f_law_less := f_law_less,
    d_law_less := PySem.W.fnOf "_law_less" "_law_less" (defArgs s_law_less) (defBody s_law_less) (defScope s_law_less) .none kV_law_less dc_law_less pm_law_less an_law_less cd_law_less ct_law_less,
    f_law_right := f_law_right,
    d_law_right := PySem.W.fnOf "_law_right" "_law_right" (defArgs s_law_right) (defBody s_law_right) (defScope s_law_right) .none kV_law_right dc_law_right pm_law_right an_law_right cd_law_right ct_law_right,
    f_law := fa,
    d_law := PySem.W.fnOf "law" "law" (defArgs s_law) (defBody s_law) (defScope s_law) .none kV_law dc_law pm_law an_law cd_law ct_law }
  have t : Tx K mg a := {
    cl := ⟨c1, c2, c3, c4⟩,
    clt := ⟨⟨c1, c2, c3, c4⟩, t1, t2, t3, t4, t5, (fun n hn => by rcases List.mem_cons.mp hn with rfl | hn; exact ty0; rcases List.mem_cons.mp hn with rfl | hn; exact ty1; rcases List.mem_cons.mp hn with rfl | hn; exact ty2; rcases List.mem_cons.mp hn with rfl | hn; exact ty3; rcases List.mem_cons.mp hn with rfl | hn; exact ty4; rcases List.mem_cons.mp hn with rfl | hn; exact ty5; cases hn), (fun n hn => by rcases List.mem_cons.mp hn with rfl | hn; exact no0; rcases List.mem_cons.mp hn with rfl | hn; exact no1; rcases List.mem_cons.mp hn with rfl | hn; exact no2; rcases List.mem_cons.mp hn with rfl | hn; exact no3; rcases List.mem_cons.mp hn with rfl | hn; exact no4; rcases List.mem_cons.mp hn with rfl | hn; exact no5; rcases List.mem_cons.mp hn with rfl | hn; exact no6; cases hn)⟩,
    g_Line := PySem.W.mg_of X G hC,
    mkL := ⟨m1, m2, m3, m4⟩,
    p_capacity := ⟨u1, u2, u3, ⟨_, u4⟩⟩,
    m_load := ⟨w1_load, w2_load, k_Line_load⟩,
    m_walk := ⟨w1_walk, w2_walk, k_Line_walk⟩,
    m_added := ⟨w1_added, w2_added, k_Line_added⟩,
    m_without := ⟨w1_without, w2_without, k_Line_without⟩,
    ow := { t := ⟨⟨c1, c2, c3, c4⟩, t1, t2, t3, t4, t5, (fun n hn => by rcases List.mem_cons.mp hn with rfl | hn; exact ty0; rcases List.mem_cons.mp hn with rfl | hn; exact ty1; rcases List.mem_cons.mp hn with rfl | hn; exact ty2; rcases List.mem_cons.mp hn with rfl | hn; exact ty3; rcases List.mem_cons.mp hn with rfl | hn; exact ty4; rcases List.mem_cons.mp hn with rfl | hn; exact ty5; cases hn), (fun n hn => by rcases List.mem_cons.mp hn with rfl | hn; exact no0; rcases List.mem_cons.mp hn with rfl | hn; exact no1; rcases List.mem_cons.mp hn with rfl | hn; exact no2; rcases List.mem_cons.mp hn with rfl | hn; exact no3; rcases List.mem_cons.mp hn with rfl | hn; exact no4; rcases List.mem_cons.mp hn with rfl | hn; exact no5; rcases List.mem_cons.mp hn with rfl | hn; exact no6; cases hn)⟩, eq := x1, eqf := x1f, ne := x4, len := x2, lenf := x2f, bool := x5, str := x3, strf := x3f, nf := (fun n hn => by rcases List.mem_cons.mp hn with rfl | hn; exact nf0; rcases List.mem_cons.mp hn with rfl | hn; exact nf1; rcases List.mem_cons.mp hn with rfl | hn; exact nf2; rcases List.mem_cons.mp hn with rfl | hn; exact nf3; rcases List.mem_cons.mp hn with rfl | hn; exact nf4; rcases List.mem_cons.mp hn with rfl | hn; exact nf5; rcases List.mem_cons.mp hn with rfl | hn; exact nf6; cases hn) },
    p_trips := ⟨q1, q2, q3, ⟨_, q4⟩⟩,
    n_seat_count := n_seat_count,
    n_rows := n_rows,
    n_queue := n_queue,
    F_is_integer := fun_mk l_is_integer e_is_integer k_is_integer,
    g_is_integer := PySem.W.mg_of X G a_is_integer,
    k_is_integer := k_is_integer,
    F_is_station := fun_mk l_is_station e_is_station k_is_station,
    g_is_station := PySem.W.mg_of X G a_is_station,
    k_is_station := k_is_station,
    F_is_later := fun_mk l_is_later e_is_later k_is_later,
    g_is_later := PySem.W.mg_of X G a_is_later,
    k_is_later := k_is_later,
    F_is_trip_name := fun_mk l_is_trip_name e_is_trip_name k_is_trip_name,
    g_is_trip_name := PySem.W.mg_of X G a_is_trip_name,
    k_is_trip_name := k_is_trip_name,
    F_is_trip := fun_mk l_is_trip e_is_trip k_is_trip,
    g_is_trip := PySem.W.mg_of X G a_is_trip,
    k_is_trip := k_is_trip,
    F_is_pair := fun_mk l_is_pair e_is_pair k_is_pair,
    g_is_pair := PySem.W.mg_of X G a_is_pair,
    k_is_pair := k_is_pair,
    F_is_seat := fun_mk l_is_seat e_is_seat k_is_seat,
    g_is_seat := PySem.W.mg_of X G a_is_seat,
    k_is_seat := k_is_seat,
    F_check_seats := fun_mk l_check_seats e_check_seats k_check_seats,
    g_check_seats := PySem.W.mg_of X G a_check_seats,
    k_check_seats := k_check_seats,
    F_check_stations := fun_mk l_check_stations e_check_stations k_check_stations,
    g_check_stations := PySem.W.mg_of X G a_check_stations,
    k_check_stations := k_check_stations,
    F_valid_beginning := fun_mk l_valid_beginning e_valid_beginning k_valid_beginning,
    g_valid_beginning := PySem.W.mg_of X G a_valid_beginning,
    k_valid_beginning := k_valid_beginning,
    F_load_of := fun_mk l_load_of e_load_of k_load_of,
    g_load_of := PySem.W.mg_of X G a_load_of,
    k_load_of := k_load_of,
    F_trip_named := fun_mk l_trip_named e_trip_named k_trip_named,
    g_trip_named := PySem.W.mg_of X G a_trip_named,
    k_trip_named := k_trip_named,
    F_Line_capacity := fun_mk l_Line_capacity e_Line_capacity k_Line_capacity,
    F_Line_trips := fun_mk l_Line_trips e_Line_trips k_Line_trips,
    F_Line_load := fun_mk l_Line_load e_Line_load k_Line_load,
    F_Line_walk := fun_mk l_Line_walk e_Line_walk k_Line_walk,
    F_Line_len := fun_mk l_Line_len e_Line_len k_Line_len,
    F_Line_str := fun_mk l_Line_str e_Line_str k_Line_str,
    F_Line_init := ⟨⟨oc_Line_init, od_Line_init, .ref TD, kV_Line_init, dc_Line_init, pm_Line_init, an_Line_init, ct_Line_init, sl_Line_init, rfl, l_Line_init, e_Line_init, .inr ⟨by simp, TD, _, [.ref eL], _, rfl, w1, rfl, .cons rfl .nil⟩⟩, k_Line_init⟩,
    dfl := by
      intro O H
      unfold Reps
      refine ⟨.ref eL, [], rfl, ?_, by unfold Reps; rfl⟩
      unfold Rep
      exact ⟨eL, [], rfl, .inr ⟨_, #[], nEL, w2, rfl, rfl, by decide, .nil⟩, by unfold Reps; rfl⟩,
    F_Line_eq := fun_mk l_Line_eq e_Line_eq k_Line_eq,
    F_Line_added := fun_mk l_Line_added e_Line_added k_Line_added,
    F_Line_without := fun_mk l_Line_without e_Line_without k_Line_without,
    F_meet := fun_mk l_meet e_meet k_meet,
    g_meet := PySem.W.mg_of X G a_meet,
    k_meet := k_meet,
    F_seats_left := fun_mk l_seats_left e_seats_left k_seats_left,
    g_seats_left := PySem.W.mg_of X G a_seats_left,
    k_seats_left := k_seats_left,
    F_plan_of := fun_mk l_plan_of e_plan_of k_plan_of,
    g_plan_of := PySem.W.mg_of X G a_plan_of,
    k_plan_of := k_plan_of,
    F_check_line := fun_mk l_check_line e_check_line k_check_line,
    g_check_line := PySem.W.mg_of X G a_check_line,
    k_check_line := k_check_line,
    F_names_trip_and_seat := fun_mk l_names_trip_and_seat e_names_trip_and_seat k_names_trip_and_seat,
    g_names_trip_and_seat := PySem.W.mg_of X G a_names_trip_and_seat,
    k_names_trip_and_seat := k_names_trip_and_seat,
    F_valid_pairs := fun_mk l_valid_pairs e_valid_pairs k_valid_pairs,
    g_valid_pairs := PySem.W.mg_of X G a_valid_pairs,
    k_valid_pairs := k_valid_pairs,
    F_is_plan := fun_mk l_is_plan e_is_plan k_is_plan,
    g_is_plan := PySem.W.mg_of X G a_is_plan,
    k_is_plan := k_is_plan,
    F_overfull := fun_mk l_overfull e_overfull k_overfull,
    g_overfull := PySem.W.mg_of X G a_overfull,
    k_overfull := k_overfull,
    F_choices := fun_mk l_choices e_choices k_choices,
    g_choices := PySem.W.mg_of X G a_choices,
    k_choices := k_choices,
    F_count := fun_mk l_count e_count k_count,
    g_count := PySem.W.mg_of X G a_count,
    k_count := k_count,
    F_digits_of := fun_mk l_digits_of e_digits_of k_digits_of,
    g_digits_of := PySem.W.mg_of X G a_digits_of,
    k_digits_of := k_digits_of,
    F_numbered := fun_mk l_numbered e_numbered k_numbered,
    g_numbered := PySem.W.mg_of X G a_numbered,
    k_numbered := k_numbered,
    F_plan_at := fun_mk l_plan_at e_plan_at k_plan_at,
    g_plan_at := PySem.W.mg_of X G a_plan_at,
    k_plan_at := k_plan_at,
    F_law_cell := fun_mk l_law_cell e_law_cell k_law_cell,
    g__law_cell := PySem.W.mg_of X G a_law_cell,
    k__law_cell := k_law_cell,
    F_law_pool := fun_mk l_law_pool e_law_pool k_law_pool,
    g__law_pool := PySem.W.mg_of X G a_law_pool,
    k__law_pool := k_law_pool,
    F_law_draw := fun_mk l_law_draw e_law_draw k_law_draw,
    g__law_draw := PySem.W.mg_of X G a_law_draw,
    k__law_draw := k_law_draw,
    F_law_words := fun_mk l_law_words e_law_words k_law_words,
    g__law_words := PySem.W.mg_of X G a_law_words,
    k__law_words := k_law_words,
    F_law_far := fun_mk l_law_far e_law_far k_law_far,
    g__law_far := PySem.W.mg_of X G a_law_far,
    k__law_far := k_law_far,
    F_law_rides := fun_mk l_law_rides e_law_rides k_law_rides,
    g__law_rides := PySem.W.mg_of X G a_law_rides,
    k__law_rides := k_law_rides,
    F_law_less := fun_mk l_law_less e_law_less k_law_less,
    g__law_less := PySem.W.mg_of X G a_law_less,
    k__law_less := k_law_less,
    F_law_right := fun_mk l_law_right e_law_right k_law_right,
    g__law_right := PySem.W.mg_of X G a_law_right,
    k__law_right := k_law_right,
    F_law := fun_mk l_law e_law k_law,
    g_law := PySem.W.mg_of X G a_law,
    k_law := k_law,
    v_LETTERS := ⟨_, PySem.W.mg_of X G v_LETTERS, ⟨_, rfl⟩⟩,
    v_LONGEST_NAME := ⟨_, PySem.W.mg_of X G v_LONGEST_NAME, ⟨_, rfl⟩⟩,
    v_MAX_SEATS := ⟨_, PySem.W.mg_of X G v_MAX_SEATS, ⟨_, rfl⟩⟩,
    v_MAX_TRIPS := ⟨_, PySem.W.mg_of X G v_MAX_TRIPS, ⟨_, rfl⟩⟩,
    b_abs := PySem.W.mg_none_of X G b_abs,
    b_all := PySem.W.mg_none_of X G b_all,
    b_bool := PySem.W.mg_none_of X G b_bool,
    b_divmod := PySem.W.mg_none_of X G b_divmod,
    b_enumerate := PySem.W.mg_none_of X G b_enumerate,
    b_int := PySem.W.mg_none_of X G b_int,
    b_isinstance := PySem.W.mg_none_of X G b_isinstance,
    b_len := PySem.W.mg_none_of X G b_len,
    b_max := PySem.W.mg_none_of X G b_max,
    b_min := PySem.W.mg_none_of X G b_min,
    b_range := PySem.W.mg_none_of X G b_range,
    b_reversed := PySem.W.mg_none_of X G b_reversed,
    b_sorted := PySem.W.mg_none_of X G b_sorted,
    b_str := PySem.W.mg_none_of X G b_str,
    b_tuple := PySem.W.mg_none_of X G b_tuple,
    b_zip := PySem.W.mg_none_of X G b_zip }
  refine ⟨a.d_law, [(cL, tL)], TT a, sp_law K a.CLine, ?_, ?_, ?_, nl, ?_, fun s u => .of_eq rfl, fun ns hl _ => ⟨ns, rfl, hl, t.clt, rfl⟩, ?_⟩
  · exact fun p hp => by
      rcases List.mem_cons.mp hp with rfl | hp
      · exact PySem.W.codeHd_of_K X w5
      · cases hp
  · exact fun p hp => by
      rcases List.mem_cons.mp hp with rfl | hp
      · exact ht
      · cases hp
  · exact fun p hp => by
      rcases List.mem_cons.mp hp with rfl | hp
      · exact w6
      · cases hp
  · exact fun p hp => by
      rcases List.mem_cons.mp hp with rfl | hp
      · exact List.mem_cons_self
      · cases hp
  · exact fun base _ _ TB => Z.FnOk.g (ok_law t (TB (cL, tL) List.mem_cons_self))
end ZK
set_option Elab.async false
open PySem PySem.W PyProof.Rows
set_option maxRecDepth 100000 in
set_option maxHeartbeats 0 in
theorem PySem.Challenge.cw_seatchains_k70_whole_added_and_taken_out_holds : PySem.Challenge.rw_seatchains_k70_whole_added_and_taken_out.Holds := by
  w_on; o_law; k_head; (case hw => w_witness2)
  k_fill
  refine Z.walkG (l := PySem.Challenge.rw_seatchains_k70_whole_added_and_taken_out) (n := 63) (k := 12) (x := "_law_script") rfl (by decide) rfl ⟨rfl, by decide, by decide⟩ (fun w h Y => PySem.W.km_in_of Y) ?F
  case F =>
    intro w mg fa h Y KX G hmg
    refine' ZK.law_mk KX G hmg ?hC ?c1 ?c2 ?c3 ?c4 ?t1 ?t2 ?t3 ?t4 ?t5 ?ty0 ?ty1 ?ty2 ?ty3 ?ty4 ?ty5 ?no0 ?no1 ?no2 ?no3 ?no4 ?no5 ?no6 ?m1 ?m2 ?m3 ?m4 ?u1 ?u2 ?u3 ?u4 ?w1_load ?w2_load ?w1_walk ?w2_walk ?w1_added ?w2_added ?w1_without ?w2_without ?x1 ?x1f ?x2 ?x2f ?x3 ?x3f ?x4 ?x5 ?nf0 ?nf1 ?nf2 ?nf3 ?nf4 ?nf5 ?nf6 ?q1 ?q2 ?q3 ?q4 ?n_seat_count ?n_rows ?n_queue ?a_is_integer ?l_is_integer ?e_is_integer ?k_is_integer ?a_is_station ?l_is_station ?e_is_station ?k_is_station ?a_is_later ?l_is_later ?e_is_later ?k_is_later ?a_is_trip_name ?l_is_trip_name ?e_is_trip_name ?k_is_trip_name ?a_is_trip ?l_is_trip ?e_is_trip ?k_is_trip ?a_is_pair ?l_is_pair ?e_is_pair ?k_is_pair ?a_is_seat ?l_is_seat ?e_is_seat ?k_is_seat ?a_check_seats ?l_check_seats ?e_check_seats ?k_check_seats ?a_check_stations ?l_check_stations ?e_check_stations ?k_check_stations ?a_valid_beginning ?l_valid_beginning ?e_valid_beginning ?k_valid_beginning ?a_load_of ?l_load_of ?e_load_of ?k_load_of ?a_trip_named ?l_trip_named ?e_trip_named ?k_trip_named ?l_Line_capacity ?e_Line_capacity ?k_Line_capacity ?l_Line_trips ?e_Line_trips ?k_Line_trips ?l_Line_load ?e_Line_load ?k_Line_load ?l_Line_walk ?e_Line_walk ?k_Line_walk ?l_Line_len ?e_Line_len ?k_Line_len ?l_Line_str ?e_Line_str ?k_Line_str ?l_Line_init ?e_Line_init ?k_Line_init ?w1 ?w2 ?w3 ?w4 ?w5 ?w6 ?l_Line_eq ?e_Line_eq ?k_Line_eq ?l_Line_added ?e_Line_added ?k_Line_added ?l_Line_without ?e_Line_without ?k_Line_without ?a_meet ?l_meet ?e_meet ?k_meet ?a_seats_left ?l_seats_left ?e_seats_left ?k_seats_left ?a_plan_of ?l_plan_of ?e_plan_of ?k_plan_of ?a_check_line ?l_check_line ?e_check_line ?k_check_line ?a_names_trip_and_seat ?l_names_trip_and_seat ?e_names_trip_and_seat ?k_names_trip_and_seat ?a_valid_pairs ?l_valid_pairs ?e_valid_pairs ?k_valid_pairs ?a_is_plan ?l_is_plan ?e_is_plan ?k_is_plan ?a_overfull ?l_overfull ?e_overfull ?k_overfull ?a_choices ?l_choices ?e_choices ?k_choices ?a_count ?l_count ?e_count ?k_count ?a_digits_of ?l_digits_of ?e_digits_of ?k_digits_of ?a_numbered ?l_numbered ?e_numbered ?k_numbered ?a_plan_at ?l_plan_at ?e_plan_at ?k_plan_at ?a_law_cell ?l_law_cell ?e_law_cell ?k_law_cell ?a_law_pool ?l_law_pool ?e_law_pool ?k_law_pool ?a_law_draw ?l_law_draw ?e_law_draw ?k_law_draw ?a_law_words ?l_law_words ?e_law_words ?k_law_words ?a_law_far ?l_law_far ?e_law_far ?k_law_far ?a_law_rides ?l_law_rides ?e_law_rides ?k_law_rides ?a_law_less ?l_law_less ?e_law_less ?k_law_less ?a_law_right ?l_law_right ?e_law_right ?k_law_right ?a_law ?l_law ?e_law ?k_law ?v_LETTERS ?v_LONGEST_NAME ?v_MAX_SEATS ?v_MAX_TRIPS ?b_abs ?b_all ?b_bool ?b_divmod ?b_enumerate ?b_int ?b_isinstance ?b_len ?b_max ?b_min ?b_range ?b_reversed ?b_sorted ?b_str ?b_tuple ?b_zip ?nl ?ht
    (case hC => k_is)
    (case c1 => k_is)
    (case c2 => k_is)
    (case c3 => k_is)
    (case c4 => k_is)
    (case t1 => k_is)
    (case t2 => k_is)
    (case t3 => k_is)
    (case t4 => k_is)
    (case t5 => kernel_rfl)
    (case ty0 => kernel_rfl)
    (case ty1 => kernel_rfl)
    (case ty2 => kernel_rfl)
    (case ty3 => kernel_rfl)
    (case ty4 => kernel_rfl)
    (case ty5 => kernel_rfl)
    (case no0 => kernel_rfl)
    (case no1 => kernel_rfl)
    (case no2 => kernel_rfl)
    (case no3 => kernel_rfl)
    (case no4 => kernel_rfl)
    (case no5 => kernel_rfl)
    (case no6 => kernel_rfl)
    (case m1 => k_is)
    (case m2 => k_is)
    (case m3 => k_is)
    (case m4 => k_is)
    (case u1 => k_is)
    (case u2 => k_is)
    (case u3 => k_is)
    (case u4 => k_is)
    (case w1_load => k_is)
    (case w2_load => k_is)
    (case w1_walk => k_is)
    (case w2_walk => k_is)
    (case w1_added => k_is)
    (case w2_added => k_is)
    (case w1_without => k_is)
    (case w2_without => k_is)
    (case x1 => k_is)
    (case x1f => k_is)
    (case x2 => k_is)
    (case x2f => k_is)
    (case x3 => k_is)
    (case x3f => k_is)
    (case x4 => k_is)
    (case x5 => k_is)
    (case nf0 => kernel_rfl)
    (case nf1 => kernel_rfl)
    (case nf2 => kernel_rfl)
    (case nf3 => kernel_rfl)
    (case nf4 => kernel_rfl)
    (case nf5 => kernel_rfl)
    (case nf6 => kernel_rfl)
    (case q1 => k_is)
    (case q2 => k_is)
    (case q3 => k_is)
    (case q4 => k_is)
    (case n_seat_count => k_is)
    (case n_rows => k_is)
    (case n_queue => k_is)
    (case a_is_integer => k_is)
    (case l_is_integer => k_is)
    (case e_is_integer => k_is)
    (case k_is_integer => k_is)
    (case a_is_station => k_is)
    (case l_is_station => k_is)
    (case e_is_station => k_is)
    (case k_is_station => k_is)
    (case a_is_later => k_is)
    (case l_is_later => k_is)
    (case e_is_later => k_is)
    (case k_is_later => k_is)
    (case a_is_trip_name => k_is)
    (case l_is_trip_name => k_is)
    (case e_is_trip_name => k_is)
    (case k_is_trip_name => k_is)
    (case a_is_trip => k_is)
    (case l_is_trip => k_is)
    (case e_is_trip => k_is)
    (case k_is_trip => k_is)
    (case a_is_pair => k_is)
    (case l_is_pair => k_is)
    (case e_is_pair => k_is)
    (case k_is_pair => k_is)
    (case a_is_seat => k_is)
    (case l_is_seat => k_is)
    (case e_is_seat => k_is)
    (case k_is_seat => k_is)
    (case a_check_seats => k_is)
    (case l_check_seats => k_is)
    (case e_check_seats => k_is)
    (case k_check_seats => k_is)
    (case a_check_stations => k_is)
    (case l_check_stations => k_is)
    (case e_check_stations => k_is)
    (case k_check_stations => k_is)
    (case a_valid_beginning => k_is)
    (case l_valid_beginning => k_is)
    (case e_valid_beginning => k_is)
    (case k_valid_beginning => k_is)
    (case a_load_of => k_is)
    (case l_load_of => k_is)
    (case e_load_of => k_is)
    (case k_load_of => k_is)
    (case a_trip_named => k_is)
    (case l_trip_named => k_is)
    (case e_trip_named => k_is)
    (case k_trip_named => k_is)
    (case l_Line_capacity => k_is)
    (case e_Line_capacity => k_is)
    (case k_Line_capacity => k_is)
    (case l_Line_trips => k_is)
    (case e_Line_trips => k_is)
    (case k_Line_trips => k_is)
    (case l_Line_load => k_is)
    (case e_Line_load => k_is)
    (case k_Line_load => k_is)
    (case l_Line_walk => k_is)
    (case e_Line_walk => k_is)
    (case k_Line_walk => k_is)
    (case l_Line_len => k_is)
    (case e_Line_len => k_is)
    (case k_Line_len => k_is)
    (case l_Line_str => k_is)
    (case e_Line_str => k_is)
    (case k_Line_str => k_is)
    (case l_Line_init => k_is)
    (case e_Line_init => k_is)
    (case k_Line_init => k_is)
    (case w1 => k_is)
    (case w2 => k_is)
    (case w3 => k_is)
    (case w4 => rfl)
    (case w5 => kernel_rfl)
    (case w6 => kernel_rfl)
    (case l_Line_eq => k_is)
    (case e_Line_eq => k_is)
    (case k_Line_eq => k_is)
    (case l_Line_added => k_is)
    (case e_Line_added => k_is)
    (case k_Line_added => k_is)
    (case l_Line_without => k_is)
    (case e_Line_without => k_is)
    (case k_Line_without => k_is)
    (case a_meet => k_is)
    (case l_meet => k_is)
    (case e_meet => k_is)
    (case k_meet => k_is)
    (case a_seats_left => k_is)
    (case l_seats_left => k_is)
    (case e_seats_left => k_is)
    (case k_seats_left => k_is)
    (case a_plan_of => k_is)
    (case l_plan_of => k_is)
    (case e_plan_of => k_is)
    (case k_plan_of => k_is)
    (case a_check_line => k_is)
    (case l_check_line => k_is)
    (case e_check_line => k_is)
    (case k_check_line => k_is)
    (case a_names_trip_and_seat => k_is)
    (case l_names_trip_and_seat => k_is)
    (case e_names_trip_and_seat => k_is)
    (case k_names_trip_and_seat => k_is)
    (case a_valid_pairs => k_is)
    (case l_valid_pairs => k_is)
    (case e_valid_pairs => k_is)
    (case k_valid_pairs => k_is)
    (case a_is_plan => k_is)
    (case l_is_plan => k_is)
    (case e_is_plan => k_is)
    (case k_is_plan => k_is)
    (case a_overfull => k_is)
    (case l_overfull => k_is)
    (case e_overfull => k_is)
    (case k_overfull => k_is)
    (case a_choices => k_is)
    (case l_choices => k_is)
    (case e_choices => k_is)
    (case k_choices => k_is)
    (case a_count => k_is)
    (case l_count => k_is)
    (case e_count => k_is)
    (case k_count => k_is)
    (case a_digits_of => k_is)
    (case l_digits_of => k_is)
    (case e_digits_of => k_is)
    (case k_digits_of => k_is)
    (case a_numbered => k_is)
    (case l_numbered => k_is)
    (case e_numbered => k_is)
    (case k_numbered => k_is)
    (case a_plan_at => k_is)
    (case l_plan_at => k_is)
    (case e_plan_at => k_is)
    (case k_plan_at => k_is)
    (case a_law_cell => k_is)
    (case l_law_cell => k_is)
    (case e_law_cell => k_is)
    (case k_law_cell => k_is)
    (case a_law_pool => k_is)
    (case l_law_pool => k_is)
    (case e_law_pool => k_is)
    (case k_law_pool => k_is)
    (case a_law_draw => k_is)
    (case l_law_draw => k_is)
    (case e_law_draw => k_is)
    (case k_law_draw => k_is)
    (case a_law_words => k_is)
    (case l_law_words => k_is)
    (case e_law_words => k_is)
    (case k_law_words => k_is)
    (case a_law_far => k_is)
    (case l_law_far => k_is)
    (case e_law_far => k_is)
    (case k_law_far => k_is)
    (case a_law_rides => k_is)
    (case l_law_rides => k_is)
    (case e_law_rides => k_is)
    (case k_law_rides => k_is)
    (case a_law_less => k_is)
    (case l_law_less => k_is)
    (case e_law_less => k_is)
    (case k_law_less => k_is)
    (case a_law_right => k_is)
    (case l_law_right => k_is)
    (case e_law_right => k_is)
    (case k_law_right => k_is)
    (case a_law => k_is)
    (case l_law => k_is)
    (case e_law => k_is)
    (case k_law => k_is)
    (case v_LETTERS => k_is)
    (case v_LONGEST_NAME => k_is)
    (case v_MAX_SEATS => k_is)
    (case v_MAX_TRIPS => k_is)
    (case b_abs => k_is)
    (case b_all => k_is)
    (case b_bool => k_is)
    (case b_divmod => k_is)
    (case b_enumerate => k_is)
    (case b_int => k_is)
    (case b_isinstance => k_is)
    (case b_len => k_is)
    (case b_max => k_is)
    (case b_min => k_is)
    (case b_range => k_is)
    (case b_reversed => k_is)
    (case b_sorted => k_is)
    (case b_str => k_is)
    (case b_tuple => k_is)
    (case b_zip => k_is)
    (case nl => kernel_rfl)
    (case ht => exact PySem.W.km_tabs_of Y _ (by simp))
